/-
  Parts of a proof, joined.
-/
import Derived.Test.YthghjlinhokimaaGreatDoorZcA
import Derived.Test.YthghjlinhokimaaGreatDoorZc39
set_option linter.all false
set_option maxRecDepth 100000
set_option maxHeartbeats 6400000
namespace Go.Proofs.YthghjlinhokimaaGreatDoor
open Go.ChangeShapes Go.WideShapes Go.ChangeAt Go.RowKit Go.Proofs.Tryz
section
variable {F : Gx} {N ob : Nat} {vl vs v : Value} {w W W1 W3 : World} {s : Bst} {ln : List Lin} {sm : List UInt8} {M : Mach} {n : Int} {l : List Wt}
theorem zwO{P:Program}{a:Act}{o:Oper}{w:World}(t:TypeId){x1 x2 x3:Operand}(c:o.op=.build t #[(0,x1),(1,x2),(2,x3)])(b v2 v3:Value){v:Value}(h1:a.eval x1=b)(h2:a.eval x2=v2)(h3:a.eval x3=v3)(d:(Instr.build t #[(0,b),(1,v2),(2,v3)]).run P w=.ok v w):(execOp a.eval o).run P w=.ok (.value v) w:=by
 unfold execOp;simp only[c,dj,bP,cB,h1,h2,h3,fj,d,dx,fk]
theorem GV.ss8(h:GV F N ob vl vs w s ln sm W){y:Nat}(a:s.M.b.l=y):W.cell? ⟨ob,0,none⟩=some vl/\W.cell? ⟨F.g,64,none⟩=some (.int .i64 s.M.b.f)/\W.cell? ⟨F.g,61,none⟩=some (.int .i64 y)/\W.cell? ⟨F.g,34,none⟩=some F.S.vi:=⟨Lib.cell_of_heap h.c.ob 0,h.c.at 64 _ (by decide) U,by rw[<- a];exact h.c.at 61 _ (by decide) U,h.c.at 34 _ (by decide) U⟩
theorem GV.mm(h:GV F N ob vl vs w s ln sm W):∃ g o a,256<=a/\Mm W s.M.video F.S.vi g o a:=by
 obtain⟨v,b⟩:=h.c.gd;obtain⟨g,o,c,f⟩:=Mm.of b.vi.slice b.fit.video;obtain⟨a,e,d,_⟩:=b.vi.some (by rw[b.fit.video];decide);have h3:=f.v.symm.trans e
 injection h3 with _ _ h4
 rw[b.fit.video] at d;exact⟨g,o,c,by omega,f⟩
theorem zyo(q:GK F N ob)(z:Code)(P:Ending->World->Prop)(a:Act)(hC:Ck a F.g v ob)(h:GV F N ob vl vs w s ln sm W)(hl:ln.length<=100000)
 (hz:∀(a':Act) (W':World) (vl':Value),Ck a' F.g v ob->GV F N ob vl' vs w s (ln++s.M.line) sm W'->Code.wp prog z (bodyPost prog Tryz.f41 P) a' W'):Code.wp prog (.seq (dN 0 (jc 2 eH)) z) (bodyPost prog Tryz.f41 P) a W:=by
 obtain⟨sz,df,s0,s1,s2,s6⟩:=hC;obtain⟨f,hf,rfl⟩:=vk a sz df;rw[hf] at s0 s1 s2 s6;clear hf sz df;rw[s0,s1,s2,s6];clear s0 s1 s2 s6;obtain⟨M,n,l⟩:=s;have X:=h.c.at 61 (.int .i64 M.b.l) (by decide) U;have Z:=h.c.at 62 (.int .i64 M.b.a) (by decide) U;obtain⟨mz,mf⟩:=h.c.gz;have HK:=hid q;have H:=hid h;have HZ:=hid hz;have HL:=hid hl;have hbl:=h.c.fit.b.l0;clear q h hz hl;conv=>arg 2;arg 1;dsimp only[jc,dN,eH,Tryz.f41,Option.getD]
 by_cases ha:M.b.a=0
 ·rw[ha] at Z
  by_cases h8:M.b.l<8
  ·obtain⟨y,hy⟩:∃ y:Nat,M.b.l=y:=aB hbl
   have T:M.line=[⟨M.b.f,y,px M.video y⟩]:=by
    unfold Mach.line;rw[Q ⟨ha,h8⟩,hy];rfl
   have HE:=hid T;have HY:=hid hy;rw[hy] at X h8;have L:y<8:=by omega
   have HY8:=hid L;clear ha hy T hbl L;go_upto_region 8 with fail
   refine Pl.cutW (GV F N ob vl vs w ⟨M,n,l⟩ ln sm) (by first|exact H.out|exact H.out.kept (J W).drew) ?_;intro Y hY;have HX:=hid (hY.kept (J Y).drew);have m:=HX.out.ss8 HY.out;clear hY X Z mz mf H h8;refine mI (S:=λw'=>w'.cell? ⟨ob,0,none⟩=some vl/\w'.cell? ⟨F.g,64,none⟩=some (.int .i64 M.b.f)/\w'.cell? ⟨F.g,61,none⟩=some (.int .i64 y)/\w'.cell? ⟨F.g,34,none⟩=some F.S.vi) (st:=27) (by kernel_rfl) ?_;refine bI 0 (λ_=>m) ?_;refine bI 1 (λ_=>m) ?_;refine bI 2 (λ_=>m) ?_;refine bI 3 (λ_=>m) ?_;refine bI 5 (λ_=>m) ?_;refine bI 6 (λ_=>m) ?_;refine bI 7 (λ_=>m) ?_;refine bI 8 (λ_=>m) ?_;refine bI 10 (λ_=>m) ?_;refine bI 11 (λ_=>m) ?_;refine bI 12 (λ_=>m) ?_;refine bI 13 (λ_=>m) ?_;refine bI 15 (λ_=>m) ?_;refine bI 16 (λ_=>m) ?_;refine bI 17 (λ_=>m) ?_;refine bI 19 (λ_=>m) ?_;refine bI 20 (λ_=>m) ?_;refine bI 21 (λ_=>m) ?_;refine bI 22 (λ_=>m) ?_;refine mJ [27] (i:=4) (oi:=⟨some 64,_,_,_,_,none⟩) (v:=vl) U (Or.inl ⟨by rfl,?_⟩) m ?_
   ·intro w' o
    have p:=o.1;have t:=aG w' _ p;go_simp;try (with_reducible rfl)
   simp only[Act.put,xA,xB,xC];refine mJ [27,26,25] (i:=9) (oi:=⟨some 69,_,_,_,_,none⟩) (v:=.int .i64 M.b.f) U (Or.inl ⟨by rfl,?_⟩) m ?_
   ·intro w' o
    have p:=o.2.1;have t:=aG w' _ p;go_simp;try (with_reducible rfl)
   simp only[Act.put,xA,xB,xC];refine mJ [27,26,25] (i:=14) (oi:=⟨some 74,_,_,_,_,none⟩) (v:=.int .i64 y) U (Or.inl ⟨by rfl,?_⟩) m ?_
   ·intro w' o
    have p:=o.2.2.1;have t:=aG w' _ p;go_simp;try (with_reducible rfl)
   simp only[Act.put,xA,xB,xC];refine mJ [27,24] (i:=18) (oi:=⟨some 78,_,_,_,_,none⟩) (v:=F.S.vi) U (Or.inl ⟨by rfl,?_⟩) m ?_
   ·intro w' o
    have p:=o.2.2.2;have t:=aG w' _ p;go_simp;try (with_reducible rfl)
   simp only[Act.put,xA,xB,xC];refine mJ [27,24] (i:=23) (oi:=⟨some 83,_,_,_,_,none⟩) (v:=.int .i64 y) U (Or.inl ⟨by rfl,?_⟩) m ?_
   ·intro w' o
    have p:=o.2.2.1;have t:=aG w' _ p;go_simp;try (with_reducible rfl)
   simp only[Act.put,xA,xB,xC];refine fP 24 (λK q=>?_);go_simp;go_at_call 71
   obtain⟨gm,om,cm,hcm,hmm⟩:=HX.out.mm;refine(zpm M.video F.S.vi gm om cm y _ hmm hcm HY8.out).mono ?_;rintro e w1 ⟨rfl,hb1⟩;have u:=hid (HX.out.kept hb1);clear hb1 hmm;try go_wp2_with fail
   refine gL q (λ_=>u.out.ss8 HY.out) ?_;clear q K;clear m;have m:=u.out.ss8 HY.out;refine kH (i:=25) (oi:=⟨some 85,_,_,_,_,none⟩) (v:=.agg (eZ M.b.f y (px M.video y)).toArray) U (by kernel_rfl) (by kernel_rfl) (by kernel_rfl) (by decide) (λ_ _ _ h=>h) (Or.inl ⟨by rfl,λw' _=>zwO 68 (x1:=.tmp 69) (x2:=.tmp 74) (x3:=.tmp 84) U _ _ _ U U U (ziG M.b.f y (px M.video y) _)⟩) (λ_=>m) ?_;simp only[Act.put,xA,xB,xC];refine fP 26 (λK q=>?_);refine sS U 44 1 0 _ U (.agg (eZ M.b.f y (px M.video y)).toArray) U (zfN M.b.f y (px M.video y) _) ?_;have d:=hid (u.out.kept (stA (J w1) (.cells (eZ M.b.f y (px M.video y)).toArray 68)));refine gL q (λ_=>d.out.ss8 HY.out) ?_;clear q K;refine fP 27 (λK q=>?_);obtain⟨i1,hj0,hy0,hy1,hy2⟩:=info_parts zfO;refine step_append_lies _ (by rfl) (.tmp 64) (.tmp 86) 44 (by rfl) N 68 i1 _ 18 32 underlying44 hj0 hy0 hy1 hy2 U (by omega) vl ln.length (jM ln) U d.out.c.ln ⟨w1.heap.size,0,none⟩ 1 1 (eZ M.b.f y (px M.video y)) U (ziH _ _ _) (sT _ w1) (ziI _ _ _) (by omega) (by unfold maxLen;have:=HL.out;omega) (by have:=HL.out;omega) (d.out.nz HK.out) _ U ?_
   intro g1 E W3 r B I hz1;have R:=hid B;have HO1:=hid r;have HAT:=hid I;have hq:=(B.block ob d.out.c.lt (λe=>jN d.out.c.ln d.out.c.ob (by decide) e.symm)).trans d.out.c.ob;have hq0:W3.cell? ⟨ob,0,none⟩=some vl:=Lib.cell_of_heap hq 0;have hqz:ob<W3.heap.size:=ap d.out.c.lt B.size;have hqf:W3.frozen? ⟨ob,0,none⟩=false:=Lib.frozen_of_heap hq 0;clear r B I hz1 m hq;refine gL q (λh=>by simp at h) ?_;clear q K;refine bI 28 (λh=>by simp at h) ?_;refine bI 29 (λh=>by simp at h) ?_;refine fP 30 (λK q=>?_);go_simp;refine gL q (λh=>by simp at h) ?_;clear q K;refine lL (by kernel_rfl) ?_ _;obtain⟨x,hx⟩:∃ x:Lin,x=⟨M.b.f,y,px M.video y⟩:=⟨_,U⟩
   have hlen:(ln++[x]).length=ln.length+1:=by simp
   have hb2:jM (ln++[x])=jM ln++eZ M.b.f y (px M.video y):=by rw[zl2,hx];simp[jM]
   have hG:=d.out.grown (vl':=.slice (some ⟨g1,0,none⟩) (ln.length+1) E) (vs':=vs) (ln':=ln++[x]) (sm':=sm) HK.out (Or.inl U) (λk hk=>by
    rcases hk with e|e
    ·have e3:g1=k:=aH e
     rcases HAT.out with x|x
     ·exact Or.inl (x.trans (congrArg some e3))
     ·exact Or.inr (Or.inr (by rw[<- e3,x];exact ak _))
    ·exact Or.inr (Or.inl e)) d.out.c.ln ⟨by decide,by decide⟩ R.out 0 _ U (by rw[hlen,hb2];exact HO1.out)
    (fF d.out.c.sm (λj e=>by
      obtain⟨_,h2,cs,h3⟩:=fZ d.out.c.sm j e;exact R.out.block j h2 (λe'=>jN d.out.c.ln h3 (by decide) e'.symm)))
   refine Pl.cutE (GV F N ob (.slice (some ⟨g1,0,none⟩) (ln.length+1) E) vs w ⟨M,n,l⟩ (ln++[x]) sm) hG ?_;intro V hV;rw[hx,<- HE.out] at hV;have HV:=hid hV;clear hV hG hq0 hqz hqf R HO1 u d HX HAT;try go_wp2
   exact HZ.out _ _ _ ⟨U,U,U,U,U,U⟩ HV.out
  ·have T:M.line=[]:=G (λe=>h8 e.2)
   rw[T,bZ] at HZ;have L:(8:Int)<=M.b.l:=by omega
   clear h8;go_wp2;exact HZ.out _ _ _ ⟨U,U,U,U,U,U⟩ (by first|exact H.out|exact H.out.kept (J W).drew)
 ·have T:M.line=[]:=G (λe=>ha e.1)
  rw[T,bZ] at HZ;have ha':(M.b.a == 0)=false:=by simpa using ha
  go_wp2;exact HZ.out _ _ _ ⟨U,U,U,U,U,U⟩ (by first|exact H.out|exact H.out.kept (J W).drew)
end
end Go.Proofs.YthghjlinhokimaaGreatDoor
