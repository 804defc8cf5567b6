/-
  Parts of a proof, joined.
-/
import Derived.Test.YthghjlinhokimaaGreatDoorZbA
import Derived.Test.YthghjlinhokimaaGreatDoorZb39
set_option linter.all false
set_option maxRecDepth 100000
set_option maxHeartbeats 6400000
open Option renaming none->G,some->A
open Go.Act renaming put->ag
open Or renaming inl->aj,inr->ao
open Go.Value renaming int->J
open Go.IntKind renaming i64->Q
namespace Go.Proofs.YthghjlinhokimaaGreatDoor
open Go.ChangeShapes Go.WideShapes Go.ChangeAt Go.RowKit Go.Proofs.Tryz
section
variable {F : Gx} {N ob : Nat} {vl vs v : Value} {w W W1 W3 : World} {s : Bst} {ln : List Lin} {sm : List UInt8} {M : Mach} {n : Int} {l : List Wt}
theorem zzK{P:Program}{a:Act}{o:Oper}{w:World}(t:TypeId){x1 x2 x3:Operand}(c:o.op=.build t #[(0,x1),(1,x2),(2,x3)])(b v2 v3:Value){v:Value}(h1:a.eval x1=b)(h2:a.eval x2=v2)(h3:a.eval x3=v3)(d:(Instr.build t #[(0,b),(1,v2),(2,v3)]).run P w=.ok v w):(execOp a.eval o).run P w=.ok (.value v) w:=by
 unfold execOp;simp only[c,fy,cI,dQ,h1,h2,h3,iB,d,fQ,i7]
theorem GV.ss8(h:GV F N ob vl vs w s ln sm W){y:Nat}(a:s.M.b.l=y):W.cell? ⟨ob,0,G⟩=A vl/\W.cell? ⟨F.g,64,G⟩=A (J Q s.M.b.f)/\W.cell? ⟨F.g,61,G⟩=A (J Q y)/\W.cell? ⟨F.g,34,G⟩=A F.S.vi:=⟨Lib.cell_of_heap h.c.ob 0,h.c.at 64 _ (by decide) D,by rw[<- a];exact h.c.at 61 _ (by decide) D,h.c.at 34 _ (by decide) D⟩
theorem GV.mm(h:GV F N ob vl vs w s ln sm W):∃ g o a,256<=a/\Mm W s.M.video F.S.vi g o a:=by
 obtain⟨v,b⟩:=h.c.gd;obtain⟨g,o,c,f⟩:=Mm.of b.vi.slice b.fit.video;obtain⟨a,e,d,_⟩:=b.vi.some (by rw[b.fit.video];decide);have h3:=f.v.symm.trans e
 injection h3 with _ _ h4
 rw[b.fit.video] at d;exact⟨g,o,c,by omega,f⟩
theorem zBt(q:GK F N ob)(z:Code)(P:Ending->World->Prop)(a:Act)(hC:Ck a F.g v ob)(h:GV F N ob vl vs w s ln sm W)(hl:ln.length<=100000)
 (hz:∀(a':Act) (W':World) (vl':Value),Ck a' F.g v ob->GV F N ob vl' vs w s (ln++s.M.line) sm W'->Code.wp prog z (bodyPost prog Tryz.f41 P) a' W'):Code.wp prog (.seq (gK 0 (mn 2 iE)) z) (bodyPost prog Tryz.f41 P) a W:=by
 obtain⟨sz,df,s0,s1,s2,s6⟩:=hC;obtain⟨f,hf,rfl⟩:=AY a sz df;rw[hf] at s0 s1 s2 s6;clear hf sz df;rw[s0,s1,s2,s6];clear s0 s1 s2 s6;obtain⟨M,n,l⟩:=s;have X:=h.c.at 61 (J Q M.b.l) (by decide) D;have Z:=h.c.at 62 (J Q M.b.a) (by decide) D;obtain⟨mz,mf⟩:=h.c.gz;have HK:=hid q;have H:=hid h;have HZ:=hid hz;have HL:=hid hl;have hbl:=h.c.fit.b.l0;clear q h hz hl;conv=>arg 2;arg 1;dsimp only[mn,gK,iE,Tryz.f41,Option.getD]
 by_cases ha:M.b.a=0
 ·rw[ha] at Z
  by_cases h8:M.b.l<8
  ·obtain⟨y,hy⟩:∃ y:Nat,M.b.l=y:=aA hbl
   have U:M.line=[⟨M.b.f,y,px M.video y⟩]:=by
    unfold Mach.line;rw[am ⟨ha,h8⟩,hy];rfl
   have HE:=hid U;have HY:=hid hy;rw[hy] at X h8;have R:y<8:=by omega
   have HY8:=hid R;clear ha hy U hbl R;go_upto_region 8 with fail
   refine Pl.cutW (GV F N ob vl vs w ⟨M,n,l⟩ ln sm) (by first|exact H.out|exact H.out.kept (aR W).drew) ?_;intro ι hY;have HX:=hid (hY.kept (aR ι).drew);have m:=HX.out.ss8 HY.out;clear hY X Z mz mf H h8;refine qp (S:=λw'=>w'.cell? ⟨ob,0,G⟩=A vl/\w'.cell? ⟨F.g,64,G⟩=A (J Q M.b.f)/\w'.cell? ⟨F.g,61,G⟩=A (J Q y)/\w'.cell? ⟨F.g,34,G⟩=A F.S.vi) (st:=27) (by kernel_rfl) ?_;refine b8 0 (λ_=>m) ?_;refine b8 1 (λ_=>m) ?_;refine b8 2 (λ_=>m) ?_;refine b8 3 (λ_=>m) ?_;refine b8 5 (λ_=>m) ?_;refine b8 6 (λ_=>m) ?_;refine b8 7 (λ_=>m) ?_;refine b8 8 (λ_=>m) ?_;refine b8 10 (λ_=>m) ?_;refine b8 11 (λ_=>m) ?_;refine b8 12 (λ_=>m) ?_;refine b8 13 (λ_=>m) ?_;refine b8 15 (λ_=>m) ?_;refine b8 16 (λ_=>m) ?_;refine b8 17 (λ_=>m) ?_;refine b8 19 (λ_=>m) ?_;refine b8 20 (λ_=>m) ?_;refine b8 21 (λ_=>m) ?_;refine b8 22 (λ_=>m) ?_;refine rA [27] (i:=4) (oi:=⟨A 64,_,_,_,_,G⟩) (v:=vl) D (aj ⟨by rfl,?_⟩) m ?_
   ·intro w' o
    have p:=o.1;have t:=aC w' _ p;go_simp;try (with_reducible rfl)
   simp only[ag,xA,xB,xC];refine rA [27,26,25] (i:=9) (oi:=⟨A 69,_,_,_,_,G⟩) (v:=J Q M.b.f) D (aj ⟨by rfl,?_⟩) m ?_
   ·intro w' o
    have p:=o.2.1;have t:=aC w' _ p;go_simp;try (with_reducible rfl)
   simp only[ag,xA,xB,xC];refine rA [27,26,25] (i:=14) (oi:=⟨A 74,_,_,_,_,G⟩) (v:=J Q y) D (aj ⟨by rfl,?_⟩) m ?_
   ·intro w' o
    have p:=o.2.2.1;have t:=aC w' _ p;go_simp;try (with_reducible rfl)
   simp only[ag,xA,xB,xC];refine rA [27,24] (i:=18) (oi:=⟨A 78,_,_,_,_,G⟩) (v:=F.S.vi) D (aj ⟨by rfl,?_⟩) m ?_
   ·intro w' o
    have p:=o.2.2.2;have t:=aC w' _ p;go_simp;try (with_reducible rfl)
   simp only[ag,xA,xB,xC];refine rA [27,24] (i:=23) (oi:=⟨A 83,_,_,_,_,G⟩) (v:=J Q y) D (aj ⟨by rfl,?_⟩) m ?_
   ·intro w' o
    have p:=o.2.2.1;have t:=aC w' _ p;go_simp;try (with_reducible rfl)
   simp only[ag,xA,xB,xC];refine jy 24 (λK q=>?_);go_simp;go_at_call 71
   obtain⟨gm,om,cm,hcm,hmm⟩:=HX.out.mm;refine(zrW M.video F.S.vi gm om cm y _ hmm hcm HY8.out).mono ?_;rintro e w1 ⟨rfl,hb1⟩;have B:=hid (HX.out.kept hb1);clear hb1 hmm;try go_wp2_with fail
   refine jV q (λ_=>B.out.ss8 HY.out) ?_;clear q K;clear m;have m:=B.out.ss8 HY.out;refine oS (i:=25) (oi:=⟨A 85,_,_,_,_,G⟩) (v:=.agg (iO M.b.f y (px M.video y)).toArray) D (by kernel_rfl) (by kernel_rfl) (by kernel_rfl) (by decide) (λ_ _ _ h=>h) (aj ⟨by rfl,λw' _=>zzK 68 (x1:=.tmp 69) (x2:=.tmp 74) (x3:=.tmp 84) D _ _ _ D D D (zj5 M.b.f y (px M.video y) _)⟩) (λ_=>m) ?_;simp only[ag,xA,xB,xC];refine jy 26 (λK q=>?_);refine xu D 44 1 0 _ D (.agg (iO M.b.f y (px M.video y)).toArray) D (zgs M.b.f y (px M.video y) _) ?_;have d:=hid (B.out.kept (stA (aR w1) (.cells (iO M.b.f y (px M.video y)).toArray 68)));refine jV q (λ_=>d.out.ss8 HY.out) ?_;clear q K;refine jy 27 (λK q=>?_);obtain⟨i1,hj0,hy0,hy1,hy2⟩:=info_parts zgt;refine step_append_lies _ (by rfl) (.tmp 64) (.tmp 86) 44 (by rfl) N 68 i1 _ 18 32 underlying44 hj0 hy0 hy1 hy2 D (by omega) vl ln.length (nj ln) D d.out.c.ln ⟨w1.heap.size,0,G⟩ 1 1 (iO M.b.f y (px M.video y)) D (zj6 _ _ _) (xw _ w1) (zj7 _ _ _) (by omega) (by unfold maxLen;have:=HL.out;omega) (by have:=HL.out;omega) (d.out.nz HK.out) _ D ?_
   intro g1 I W3 r E L hz1;have T:=hid E;have HO1:=hid r;have HAT:=hid L;have hq:=(E.block ob d.out.c.lt (λe=>mL d.out.c.ln d.out.c.ob (by decide) e.symm)).trans d.out.c.ob;have hq0:W3.cell? ⟨ob,0,G⟩=A vl:=Lib.cell_of_heap hq 0;have hqz:ob<W3.heap.size:=Θ d.out.c.lt E.size;have hqf:W3.frozen? ⟨ob,0,G⟩=false:=Lib.frozen_of_heap hq 0;clear r E L hz1 m hq;refine jV q (λh=>by simp at h) ?_;clear q K;refine b8 28 (λh=>by simp at h) ?_;refine b8 29 (λh=>by simp at h) ?_;refine jy 30 (λK q=>?_);go_simp;refine jV q (λh=>by simp at h) ?_;clear q K;refine pq (by kernel_rfl) ?_ _;obtain⟨x,hx⟩:∃ x:Lin,x=⟨M.b.f,y,px M.video y⟩:=⟨_,D⟩
   have hlen:(ln++[x]).length=ln.length+1:=by simp
   have hb2:nj (ln++[x])=nj ln++iO M.b.f y (px M.video y):=by rw[zod,hx];simp[nj]
   have hG:=d.out.grown (vl':=.slice (A ⟨g1,0,G⟩) (ln.length+1) I) (vs':=vs) (ln':=ln++[x]) (sm':=sm) HK.out (aj D) (λk hk=>by
    rcases hk with e|e
    ·have e3:g1=k:=aL e
     rcases HAT.out with x|x
     ·exact aj (x.trans (congrArg A e3))
     ·exact ao (ao (by rw[<- e3,x];exact ψ _))
    ·exact ao (aj e)) d.out.c.ln ⟨by decide,by decide⟩ T.out 0 _ D (by rw[hlen,hb2];exact HO1.out)
    (jr d.out.c.sm (λj e=>by
      obtain⟨_,h2,cs,h3⟩:=jE d.out.c.sm j e;exact T.out.block j h2 (λe'=>mL d.out.c.ln h3 (by decide) e'.symm)))
   refine Pl.cutE (GV F N ob (.slice (A ⟨g1,0,G⟩) (ln.length+1) I) vs w ⟨M,n,l⟩ (ln++[x]) sm) hG ?_;intro V hV;rw[hx,<- HE.out] at hV;have HV:=hid hV;clear hV hG hq0 hqz hqf T HO1 B d HX HAT;try go_wp2
   exact HZ.out _ _ _ ⟨D,D,D,D,D,D⟩ HV.out
  ·have U:M.line=[]:=ae (λe=>h8 e.2)
   rw[U,cH] at HZ;have R:(8:Int)<=M.b.l:=by omega
   clear h8;go_wp2;exact HZ.out _ _ _ ⟨D,D,D,D,D,D⟩ (by first|exact H.out|exact H.out.kept (aR W).drew)
 ·have U:M.line=[]:=ae (λe=>ha e.1)
  rw[U,cH] at HZ;have ha':(M.b.a == 0)=false:=by simpa using ha
  go_wp2;exact HZ.out _ _ _ ⟨D,D,D,D,D,D⟩ (by first|exact H.out|exact H.out.kept (aR W).drew)
end
end Go.Proofs.YthghjlinhokimaaGreatDoor
