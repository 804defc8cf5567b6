/-
  Parts of a proof, joined.
-/
import Derived.Test.YthghjlinhokimaaGreatDoorZbA
import Derived.Test.YthghjlinhokimaaGreatDoorZb34
set_option linter.all false
set_option maxRecDepth 100000
set_option maxHeartbeats 6400000
open Go.Act renaming put->ag
open Go.Obj renaming cells->χ
open Go.Value renaming string->Ω
namespace Go.Proofs.YthghjlinhokimaaGreatDoor
open Go.ChangeShapes Go.WideShapes Go.ChangeAt Go.RowKit Go.Proofs.Tryz
theorem zI:Tryz.prog.underlying 239=some (.map 9 4):=by kernel_rfl
abbrev jl(x:C.St Bst):List (ByteArray × Bool):=[(⟨#[106,109,112]⟩,true),(⟨#[106,122]⟩,x.c.Z),(⟨#[106,110,122]⟩,(!x.c.Z)),(⟨#[106,110]⟩,x.c.N),(⟨#[106,99]⟩,x.c.C)]
section
variable {q : Qe} {w : World} {x : C.St Bst} {d e1 : Nat} {n v : Int}
theorem rJ(R:QS q)(k:Nat)(nm:ByteArray)(F:K.name k=nm)(b:Bool)(hv:0<=v/\v<=65535)(hcy:IntKind.i64.wrap (K.cyc k+1)=K.cyc k+1)(hf:((jl x).find? (λp=>p.1 == nm)).map (·.2)=some b)(hn:nm=⟨#[106,109,112]⟩ \/ nm=⟨#[106,122]⟩ \/ nm=⟨#[106,110,122]⟩ \/ nm=⟨#[106,110]⟩ \/ nm=⟨#[106,99]⟩):qi q w k nm d e1 n v x (if b then C.jump ⟨x.c,x.s,K.cyc k⟩ v else ⟨x.c,x.s,K.cyc k⟩):=by
 intro bo kb η f W hK hN;obtain⟨o0,o1,o2,o3,o4,k0,k1,k2,zo,zk,l⟩:=hK.kcells;obtain⟨m,o,a,e,r12,r13,r14⟩:=hK.cells;have HNM:=hid F;clear F;have LK:=hid (λ(w':World) (h:sk w' W.heap.size (jl x))=>zwN zI underlying9 h nm b hf);have hvw:IntKind.u16.wrap v=v:=by rw[iu];omega
 have hmm:=@lL prog;have g:=hid R;have HN:=hid hN;have i:=hid hK;clear hK hN R hf r12 r13 r14;rcases hn with rfl|rfl|rfl|rfl|rfl
 all_goals cases b
 all_goals
  conv=>arg 2;whnf
  go_wp2_with (first
   | (refine AL _ D _ (.const (Ω ⟨#[106,109,112]⟩)) _ 239 D 9 4 zI underlying9 W.heap.size [] D (zt7 W) ⟨#[106,109,112]⟩ true D D (by rfl) ?_;intro wj1 H I;have HM1:=hid H;have r:Hid (Below W.heap.size W wj1):=((stA (aR W) (.map #[] 0)).grown I (stA (aR W) (.map #[] 0)).size (λj t=>cq (aL t)));clear H I l m o a e;obtain⟨m,o,a,e,_⟩:=(i.out.kept g.out r.out).cells;have l:=(i.out.kept g.out r.out).lt)
   | (refine AL _ D _ (.const (Ω ⟨#[106,122]⟩)) _ 239 D 9 4 zI underlying9 W.heap.size [(⟨#[106,109,112]⟩,true)] D HM1.out ⟨#[106,122]⟩ x.c.Z D D (by rfl) ?_;intro wj2 L M;have HM2:=hid L;have y:Hid (Below W.heap.size W wj2):=(r.out.grown M r.out.size (λj t=>cq (aL t)));clear L M l m o a e;obtain⟨m,o,a,e,_⟩:=(i.out.kept g.out y.out).cells;have l:=(i.out.kept g.out y.out).lt)
   | (refine AL _ D _ (.const (Ω ⟨#[106,110,122]⟩)) _ 239 D 9 4 zI underlying9 W.heap.size [(⟨#[106,109,112]⟩,true),(⟨#[106,122]⟩,x.c.Z)] D HM2.out ⟨#[106,110,122]⟩ (!x.c.Z) D D (by rfl) ?_;intro wj3 P T;have HM3:=hid P;have z:Hid (Below W.heap.size W wj3):=(y.out.grown T y.out.size (λj t=>cq (aL t)));clear P T l m o a e;obtain⟨m,o,a,e,_⟩:=(i.out.kept g.out z.out).cells;have l:=(i.out.kept g.out z.out).lt)
   | (refine AL _ D _ (.const (Ω ⟨#[106,110]⟩)) _ 239 D 9 4 zI underlying9 W.heap.size [(⟨#[106,109,112]⟩,true),(⟨#[106,122]⟩,x.c.Z),(⟨#[106,110,122]⟩,(!x.c.Z))] D HM3.out ⟨#[106,110]⟩ x.c.N D D (by rfl) ?_;intro wj4 U V;have HM4:=hid U;have B:Hid (Below W.heap.size W wj4):=(z.out.grown V z.out.size (λj t=>cq (aL t)));clear U V l m o a e;obtain⟨m,o,a,e,_⟩:=(i.out.kept g.out B.out).cells;have l:=(i.out.kept g.out B.out).lt)
   | (refine AL _ D _ (.const (Ω ⟨#[106,99]⟩)) _ 239 D 9 4 zI underlying9 W.heap.size [(⟨#[106,109,112]⟩,true),(⟨#[106,122]⟩,x.c.Z),(⟨#[106,110,122]⟩,(!x.c.Z)),(⟨#[106,110]⟩,x.c.N)] D HM4.out ⟨#[106,99]⟩ x.c.C D D (by rfl) ?_;intro X hm5 hg5;have HM5:=hid hm5;have E:Hid (Below W.heap.size W X):=(B.out.grown hg5 B.out.size (λj t=>cq (aL t)));clear hm5 hg5 l m o a e;obtain⟨m,o,a,e,_⟩:=(i.out.kept g.out E.out).cells;have l:=(i.out.kept g.out E.out).lt;have H5:=hid (i.out.kept g.out E.out);clear o0 o1 o2 o3 o4 k0 k1 k2 zo zk;obtain⟨o0,o1,o2,o3,o4,k0,k1,k2,zo,zk,_⟩:=H5.out.kcells;rw[HNM.out] at k0;have fp5:=H5.out.fz;have lk:=LK.out X HM5.out;have HJ:=hid (H5.out.putPC g.out v hv.1 hv.2)))
  first
   | exact HN.out _ _ _ ⟨D,D,D,D,D⟩ (HJ.out.cyc _)
   | exact HN.out _ _ _ ⟨D,D,D,D,D⟩ (H5.out.cyc _)
theorem zBi(R:QS q):qi q w 26 ⟨#[114,116,105]⟩ d e1 n v x (C.act q.m ⟨x.c,x.s,K.cyc 26⟩ 26 d e1 n v):=by
 intro bo kb η f W h i;obtain⟨b,l⟩:0<=C.popV q.m x/\C.popV q.m x<=65535:=R.word x.s (x.c.r 7);have o:=h.lt;have g:=hid R;have p:=hid i;have t:=hid h;clear h i R;have y:IntKind.u16.wrap ((C.popV q.m x).tmod 2)=C.popV q.m x%2:=by rw[ak b,iu];omega
 have z:IntKind.u16.wrap ((C.popV q.m x).tdiv 2)=C.popV q.m x/2:=by rw[aF b,iu];omega
 have B:IntKind.u16.wrap ((C.popV q.m x/2).tmod 2)=C.popV q.m x/2%2:=by rw[ak (by omega),iu];omega
 have E:IntKind.u16.wrap ((C.popV q.m x).tdiv 4)=C.popV q.m x/4:=by rw[aF b,iu];omega
 have F:IntKind.u16.wrap ((C.popV q.m x/4).tmod 2)=C.popV q.m x/4%2:=by rw[ak (by omega),iu];omega
 have H:IntKind.u16.wrap ((C.popV q.m x).tdiv 8)=C.popV q.m x/8:=by rw[aF b,iu];omega
 have I:IntKind.u16.wrap ((C.popV q.m x/8).tmod 2)=C.popV q.m x/8%2:=by rw[ak (by omega),iu];omega
 have j:IntKind.u16.wrap ((C.popV q.m x).tdiv 16)=C.popV q.m x/16:=by rw[aF b,iu];omega
 have k:IntKind.u16.wrap ((C.popV q.m x/16).tmod 2)=C.popV q.m x/16%2:=by rw[ak (by omega),iu];omega
 conv=>arg 2;whnf
 go_wp2_with (first
  | (have L:=KM;clear L;go_at_call 139;refine(zfR g.out KM.out).mono ?_;rintro e w6 ⟨rfl,a⟩;have M:=hid a;obtain⟨g8,g9,N,P,T,U,V⟩:=a.cells;have X:=a.fz;have z6:=a.lt;clear a;have Z:=hid ((((((M.out.putPC g.out (C.popV q.m (C.pop q.m x)) (g.out.word (C.pop q.m x).s ((C.pop q.m x).c.r 7)).1 (g.out.word (C.pop q.m x).s ((C.pop q.m x).c.r 7)).2).putZ g.out (decide (C.popV q.m x%2=1))).putN g.out (decide (C.popV q.m x/2%2=1))).putC g.out (decide (C.popV q.m x/4%2=1))).putV g.out (decide (C.popV q.m x/8%2=1))).putMay g.out (decide (C.popV q.m x/16%2=1))))
  | (go_at_call 139;refine(zfR g.out t.out).mono ?_;rintro e w5 ⟨rfl,a⟩;have KM:=hid a;have z5:=a.lt;clear a))
 exact p.out _ _ _ ⟨D,D,D,D,D⟩ (Z.out.cyc _)
end
end Go.Proofs.YthghjlinhokimaaGreatDoor
