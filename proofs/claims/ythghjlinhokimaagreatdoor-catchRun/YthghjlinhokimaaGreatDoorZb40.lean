/-
  Parts of a proof, joined.
-/
import Derived.Test.YthghjlinhokimaaGreatDoorZbA
import Derived.Test.YthghjlinhokimaaGreatDoorZb39
set_option linter.all false
set_option maxRecDepth 100000
set_option maxHeartbeats 16000000
open Option renaming none->G,some->A
open Go renaming World->u,undef->dF
open Bool renaming false->ξ
open Go.Act renaming put->ag
open Or renaming inr->ao
open Go.Value renaming int->J,bool->ν
open Go.IntKind renaming i64->Q,u16->Y
open Go.Obj renaming cells->χ
namespace Go.Proofs.YthghjlinhokimaaGreatDoor
open Go.ChangeShapes Go.WideShapes Go.ChangeAt Go.RowKit Go.Proofs.Tryz
section
variable {F : Gx} {N ob : Nat} {vl vs v : Value} {w W W1 : u} {s : Bst} {ln : List Lin} {sm : List UInt8} {M : Mach} {n : Int} {l : List Wt} {tg bg : Bool}
theorem zBr(k:GK F N ob)(z:Code)(P:Ending->u->Prop)(a:Act)(hC:Ck a F.g v ob)(h:GV F N ob vl vs w s ln sm W)
 (hz:∀(a':Act) (W':u),Ck a' F.g v ob->GV F N ob vl vs w s.stepMain ln sm W'->Code.wp prog z (bodyPost prog Tryz.f41 P) a' W'):Code.wp prog (.seq (gK 0 (mn 4 iE)) z) (bodyPost prog Tryz.f41 P) a W:=by
 obtain⟨sz,df,s0,s1,s2,s6⟩:=hC;obtain⟨f,hf,rfl⟩:=AY a sz df;rw[hf] at s0 s1 s2 s6;clear hf sz df;rw[s0,s1,s2,s6];clear s0 s1 s2 s6;obtain⟨M,n,l⟩:=s;have m72:=h.c.at 72 (J Q M.clock) (by decide) D;have m73:=h.c.at 73 (J Q M.mready) (by decide) D;have m76:=h.took;obtain⟨mz,mf⟩:=h.c.gz;have HK:=hid k;have H:=hid h;have HZ:=hid hz;clear k h hz;conv=>arg 2;arg 1;dsimp only[mn,gK,iE,Tryz.f41,Option.getD]
 by_cases hr:M.clock<M.mready
 ·have e0:Bst.stepMain ⟨M,n,l⟩=⟨M,n,l⟩:=by unfold Bst.stepMain;exact am hr
  rw[e0] at HZ;go_wp2;go_region_held3 (λw'=>w'.cell? ⟨F.g,73,G⟩=A (J Q M.mready)/\w'.cell? ⟨F.g,72,G⟩=A (J Q M.clock))
   ((go_keep;done))
   (fail)
  go_wp2;exact HZ.out _ _ ⟨D,D,D,D,D,D⟩ (H.out.kept (aR W).drew)
 ·obtain⟨y,hy⟩:∃ y,y=C.step bT M.main ⟨M,0,l⟩ (M.t.g || M.b.g):=⟨_,D⟩
  obtain⟨q,hM3⟩:∃ q:Mach,q={ y.s.M with main:=y.c }:=⟨_,D⟩
  have e0:Bst.stepMain ⟨M,n,l⟩=⟨{ q with mready:=q.clock+3*y.n+y.s.n },y.s.n,y.s.l⟩:=by rw[hM3,hy];unfold Bst.stepMain;exact ae hr
  rw[e0] at HZ;have HM3:=hid hM3;have hr':M.mready<=M.clock:=by omega
  have hfu:4<=bT.fuel ⟨M,0,l⟩:=by show 4<=(1000000000000-(0:Int)).toNat/510;decide
  have HD:=hid (λ(W:u) (n0:Nat) (h:KQ F N ob vl vs w ⟨M,0,l⟩ ln sm (sY F.g n0) W)=>zzF HK.out h hfu (M.t.g || M.b.g));rw[show C.step bT M.main ⟨M,0,l⟩ (M.t.g || M.b.g)=y from hy.symm] at HD;obtain⟨tg,htg⟩:∃ b,M.t.g=b:=⟨_,D⟩
  obtain⟨bg,hbg⟩:∃ b,M.b.g=b:=⟨_,D⟩
  rw[htg,hbg] at HD;have I:=hid htg;have R:=hid hbg;clear htg hbg hy e0 hfu hM3 hr;go_wp2;go_region_held3 (λw'=>w'.cell? ⟨F.g,73,G⟩=A (J Q M.mready)/\w'.cell? ⟨F.g,72,G⟩=A (J Q M.clock))
   ((go_keep;done))
   (fail)
  go_upto_region 13 with fail
  refine Pl.cutW (GV F N ob vl vs w ⟨M,0,l⟩ ln sm) ((H.out.kept (aR W).drew).delay HK.out) ?_;intro ι hY;have HX:=hid (hY.kept (aR ι).drew);have d:=HX.out.ssM I.out R.out;have HZN:=hid (HX.out.nz HK.out);clear hY m72 m73 m76 mz mf hr' H;go_cut [9,10] (λp n W=>∃ b,p=.pointer (A ⟨b,0,G⟩)/\n=J Q y.n/\y.c.ok/\(0<=y.n/\y.n<=21)/\bT.fuel ⟨M,0,l⟩<=bT.fuel y.s+4/\KR F N ob vl vs w y.s ln sm y.c b W)
  case first =>
   refine qp (S:=λw'=>w'.rangeAt F.g 0 (bY M.main)/\w'.cell? ⟨F.g,44,G⟩=A (ν tg)/\w'.cell? ⟨F.g,63,G⟩=A (ν bg)) (st:=18) (by kernel_rfl) ?_;refine b8 0 (λ_=>d) ?_;refine b8 1 (λ_=>d) ?_;refine b8 2 (λ_=>d) ?_;refine b8 4 (λ_=>d) ?_;refine b8 6 (λ_=>d) ?_;refine b8 7 (λ_=>d) ?_;refine b8 8 (λ_=>d) ?_;refine b8 9 (λ_=>d) ?_;refine sf [] 3 (.agg (bY M.main).toArray) D (λw' T=>ml 25 _ D F.g 0 D (bY M.main) _ T.1 underlying25 D pO) d ?_;refine kU [11] 10 (λ_ T=>T.2.1) d ?_;refine zdK (i:=5) (j:=22) (oi:=⟨A 128,_,_,_,_,G⟩) (oj:=⟨A 9,_,_,_,_,G⟩) (by kernel_rfl) D D (λK k=>?_) (λK k=>?_)
   ·skip
    obtain⟨n0,x⟩:∃ n0,n0=ι.drew.heap.size:=⟨_,D⟩
    have hnN:N<=n0:=by rw[x];exact HZN.out
    go_simp;go_at_call 49
    refine(zyd F.g _ n0 x).mono ?_;rintro e w1 ⟨rfl,Z,hxc⟩;have HQ:=hid (KQ.ofM hnN (HX.out.kept Z) hxc);clear hxc x hnN;clear Z;try go_wp2_with fail
    refine jV k (λ_=>HQ.out.c.ssM I.out R.out) ?_;clear k K;clear d;have d:=HQ.out.c.ssM I.out R.out;refine b8 11 (λ_=>d) ?_;cases tg
    case' false =>
     refine b8 12 (λ_=>d) ?_;refine b8 13 (λ_=>d) ?_;refine b8 14 (λ_=>d) ?_;refine b8 15 (λ_=>d) ?_;refine kU [17] 16 (λ_ T=>T.2.2) d ?_
    case' true =>
     refine oS (i:=12) (oi:={ dst:=A 135,op:=_,type:=_,pos:=_,after:=_,guard:=A (11,ξ) }) (v:=dF) D (by kernel_rfl) (by kernel_rfl) (by kernel_rfl) (by decide) (λ_ _ _ h=>h) (ao ⟨by rfl,D⟩) (λ_=>d) ?_;simp only[ag,xA,xB,xC];refine oS (i:=13) (oi:={ dst:=A 136,op:=_,type:=_,pos:=_,after:=_,guard:=A (11,ξ) }) (v:=dF) D (by kernel_rfl) (by kernel_rfl) (by kernel_rfl) (by decide) (λ_ _ _ h=>h) (ao ⟨by rfl,D⟩) (λ_=>d) ?_;simp only[ag,xA,xB,xC];refine oS (i:=14) (oi:={ dst:=A 137,op:=_,type:=_,pos:=_,after:=_,guard:=A (11,ξ) }) (v:=dF) D (by kernel_rfl) (by kernel_rfl) (by kernel_rfl) (by decide) (λ_ _ _ h=>h) (ao ⟨by rfl,D⟩) (λ_=>d) ?_;simp only[ag,xA,xB,xC];refine oS (i:=15) (oi:={ dst:=A 138,op:=_,type:=_,pos:=_,after:=_,guard:=A (11,ξ) }) (v:=dF) D (by kernel_rfl) (by kernel_rfl) (by kernel_rfl) (by decide) (λ_ _ _ h=>h) (ao ⟨by rfl,D⟩) (λ_=>d) ?_;simp only[ag,xA,xB,xC];refine oS (i:=16) (oi:={ dst:=A 139,op:=_,type:=_,pos:=_,after:=_,guard:=A (11,ξ) }) (v:=dF) D (by kernel_rfl) (by kernel_rfl) (by kernel_rfl) (by decide) (λ_ _ _ h=>h) (ao ⟨by rfl,D⟩) (λ_=>d) ?_
     simp only[ag,xA,xB,xC]
    all_goals
     refine b8 17 (λ_=>d) ?_;refine zdK (i:=18) (j:=22) (oi:=⟨A 141,_,_,_,_,G⟩) (oj:=⟨A 9,_,_,_,_,G⟩) (by kernel_rfl) D D (λK k=>?_) (λK k=>?_)
     ·skip
      go_simp;go_at_call 73
      refine(HD.out _ _ HQ.out).mono ?_;rintro e w2 ⟨rfl,B,o,m,r⟩;have E:=hid B;have U:=hid o;have X:=hid m;have HFL:=hid r;clear B o m r;try go_wp2_with fail
      refine jV k (λh=>by simp at h) ?_;clear k K;refine b8 19 (λh=>by simp at h) ?_;refine b8 20 (λh=>by simp at h) ?_;refine b8 21 (λh=>by simp at h) ?_;refine jy 22 (λK k=>?_);go_simp;refine jV k (λh=>by simp at h) ?_;clear k K;have HE:=aM w2 (χ #[J Y 0,J Y 0,J Y 0,J Y 0,J Y 0,J Y 0,J Y 0,J Y 0,J Y 0,ν ξ,ν ξ,ν ξ,ν ξ,ν ξ,ν ξ] 25);have HT:=zT (L:=zL) HE D;refine jy 23 (λK k=>?_);refine pH D 25 _ _ D (w2.heap.size) 0 (bY y.c).toArray D D HT pO (vR y.c) ?_;refine k.out _ _ (λh=>by simp at h) ?_;clear k K;refine b8 24 (λh=>by simp at h) ?_;refine pq (by kernel_rfl) ?_ _;refine(by assumption:∀(a':Act) (w':u),Met _ a' w'->_) _ _ ?_;go_meet;exact⟨_,D,D,U.out,X.out,HFL.out,KR.of (L:=zL) HK.out y.c D (E.out.c.kept (stA (aR w2) _)) (ax (HQ.out.c.nz HK.out) E.out.z) HE⟩
     ·go_simp
      have HQ1:=hid (HQ.out.kept (stA (aR w1) (χ #[J Y 0,J Y 0,J Y 0,J Y 0,J Y 0,J Y 0,J Y 0,J Y 0,J Y 0,ν ξ,ν ξ,ν ξ,ν ξ,ν ξ,ν ξ] 25)));refine jV k (λ_=>HQ1.out.c.ssM I.out R.out) ?_;clear k K;refine jy 18 (λK k=>?_);go_simp;go_at_call 73
      refine(HD.out _ _ HQ1.out).mono ?_;rintro e w2 ⟨rfl,B,o,m,r⟩;have E:=hid B;have U:=hid o;have X:=hid m;have HFL:=hid r;clear B o m r;try go_wp2_with fail
      refine jV k (λh=>by simp at h) ?_;clear k K;refine b8 19 (λh=>by simp at h) ?_;refine b8 20 (λh=>by simp at h) ?_;refine b8 21 (λh=>by simp at h) ?_;have HE:=E.out.p _ _ (HQ.out.c.nz HK.out) (aM w1 (χ #[J Y 0,J Y 0,J Y 0,J Y 0,J Y 0,J Y 0,J Y 0,J Y 0,J Y 0,ν ξ,ν ξ,ν ξ,ν ξ,ν ξ,ν ξ] 25));have HT:=zT (L:=zL) HE D;refine jy 23 (λK k=>?_);refine pH D 25 _ _ D (w1.heap.size) 0 (bY y.c).toArray D D HT pO (vR y.c) ?_;refine k.out _ _ (λh=>by simp at h) ?_;clear k K;refine b8 24 (λh=>by simp at h) ?_;refine pq (by kernel_rfl) ?_ _;refine(by assumption:∀(a':Act) (w':u),Met _ a' w'->_) _ _ ?_;go_meet;exact⟨_,D,D,U.out,X.out,HFL.out,KR.of (L:=zL) HK.out y.c D E.out.c (HQ.out.c.nz HK.out) HE⟩
   ·go_simp
    have HXA:=hid (HX.out.kept (stA (aR ι.drew) (χ #[J Y 0,J Y 0,J Y 0,J Y 0,J Y 0,J Y 0,J Y 0,J Y 0,J Y 0,ν ξ,ν ξ,ν ξ,ν ξ,ν ξ,ν ξ] 25)));refine jV k (λ_=>HXA.out.ssM I.out R.out) ?_;clear k K;refine jy 5 (λK k=>?_);obtain⟨n0,x⟩:∃ n0,n0=(ι.drew.alloc (χ #[J Y 0,J Y 0,J Y 0,J Y 0,J Y 0,J Y 0,J Y 0,J Y 0,J Y 0,ν ξ,ν ξ,ν ξ,ν ξ,ν ξ,ν ξ] 25)).heap.size:=⟨_,D⟩
    have hnN:N<=n0:=by rw[x];exact ax HZN.out (stA (aR ι.drew) _).size
    go_simp;go_at_call 49
    refine(zyd F.g _ n0 x).mono ?_;rintro e w1 ⟨rfl,Z,hxc⟩;have HQ:=hid (KQ.ofM hnN (HXA.out.kept Z) hxc);clear hxc x hnN;have HP:=hid ((Z.block ι.drew.heap.size (by simp)).trans (aM ι.drew (χ #[J Y 0,J Y 0,J Y 0,J Y 0,J Y 0,J Y 0,J Y 0,J Y 0,J Y 0,ν ξ,ν ξ,ν ξ,ν ξ,ν ξ,ν ξ] 25)));clear Z;try go_wp2_with fail
    refine jV k (λ_=>HQ.out.c.ssM I.out R.out) ?_;clear k K;clear d;have d:=HQ.out.c.ssM I.out R.out;refine b8 11 (λ_=>d) ?_;cases tg
    case' false =>
     refine b8 12 (λ_=>d) ?_;refine b8 13 (λ_=>d) ?_;refine b8 14 (λ_=>d) ?_;refine b8 15 (λ_=>d) ?_;refine kU [17] 16 (λ_ T=>T.2.2) d ?_
    case' true =>
     refine oS (i:=12) (oi:={ dst:=A 135,op:=_,type:=_,pos:=_,after:=_,guard:=A (11,ξ) }) (v:=dF) D (by kernel_rfl) (by kernel_rfl) (by kernel_rfl) (by decide) (λ_ _ _ h=>h) (ao ⟨by rfl,D⟩) (λ_=>d) ?_;simp only[ag,xA,xB,xC];refine oS (i:=13) (oi:={ dst:=A 136,op:=_,type:=_,pos:=_,after:=_,guard:=A (11,ξ) }) (v:=dF) D (by kernel_rfl) (by kernel_rfl) (by kernel_rfl) (by decide) (λ_ _ _ h=>h) (ao ⟨by rfl,D⟩) (λ_=>d) ?_;simp only[ag,xA,xB,xC];refine oS (i:=14) (oi:={ dst:=A 137,op:=_,type:=_,pos:=_,after:=_,guard:=A (11,ξ) }) (v:=dF) D (by kernel_rfl) (by kernel_rfl) (by kernel_rfl) (by decide) (λ_ _ _ h=>h) (ao ⟨by rfl,D⟩) (λ_=>d) ?_;simp only[ag,xA,xB,xC];refine oS (i:=15) (oi:={ dst:=A 138,op:=_,type:=_,pos:=_,after:=_,guard:=A (11,ξ) }) (v:=dF) D (by kernel_rfl) (by kernel_rfl) (by kernel_rfl) (by decide) (λ_ _ _ h=>h) (ao ⟨by rfl,D⟩) (λ_=>d) ?_;simp only[ag,xA,xB,xC];refine oS (i:=16) (oi:={ dst:=A 139,op:=_,type:=_,pos:=_,after:=_,guard:=A (11,ξ) }) (v:=dF) D (by kernel_rfl) (by kernel_rfl) (by kernel_rfl) (by decide) (λ_ _ _ h=>h) (ao ⟨by rfl,D⟩) (λ_=>d) ?_
     simp only[ag,xA,xB,xC]
    all_goals
     refine b8 17 (λ_=>d) ?_;refine jy 18 (λK k=>?_);go_simp;go_at_call 73
     refine(HD.out _ _ HQ.out).mono ?_;rintro e w2 ⟨rfl,B,o,m,r⟩;have E:=hid B;have U:=hid o;have X:=hid m;have HFL:=hid r;clear B o m r;try go_wp2_with fail
     refine jV k (λh=>by simp at h) ?_;clear k K;refine b8 19 (λh=>by simp at h) ?_;refine b8 20 (λh=>by simp at h) ?_;refine b8 21 (λh=>by simp at h) ?_;have HE:=E.out.p _ _ HZN.out HP.out;have HT:=zT (L:=zL) HE D;refine jy 23 (λK k=>?_);refine pH D 25 _ _ D (ι.drew.heap.size) 0 (bY y.c).toArray D D HT pO (vR y.c) ?_;refine k.out _ _ (λh=>by simp at h) ?_;clear k K;refine b8 24 (λh=>by simp at h) ?_;refine pq (by kernel_rfl) ?_ _;refine(by assumption:∀(a':Act) (w':u),Met _ a' w'->_) _ _ ?_;go_meet;exact⟨_,D,D,U.out,X.out,HFL.out,KR.of (L:=zL) HK.out y.c D E.out.c HZN.out HE⟩
  case rest =>
   obtain⟨b,rfl,rfl,hok,m,r,hR⟩:=hcut;have hsn:y.s.n<=2550:=by
    have h0:(1000000000000-(0:Int)).toNat/510<=(1000000000000-y.s.n).toNat/510+4:=r;omega
   have HR:=hid hR;have U:=hid hok;have X:=hid m;have HSN:=hid hsn;clear hR hok m r d HX HD hsn;have hG:=HR.out.c.puts (M':={ y.s.M with main:=y.c }) HK.out 0 (bY y.c) (by simp[bY]) (λtk=>F.putMain y.s.M tk y.c) ⟨D,D,D,D,D⟩ { HR.out.c.c.fit with main:=U.out };rw[<- HM3.out] at hG;have HG:=hid hG;clear hG;go_upto_region 15 with(first
    | (refine wpList_load_mid D 25 _ D b 0 D (bY y.c) _ HR.out.p.c underlying25 D pO ?_)
    | (refine wpList_store_mid D 25 _ _ D F.g 0 (bY y.c).toArray D D (HR.out.c.c.th 0 15 (by decide)) pO (vR y.c) ?_
       refine Pl.cutL (GV F N ob vl vs w ⟨q,y.s.n,y.s.l⟩ ln sm) HG.out ?_;intro V hV0;have HV0:=hid hV0;clear hV0))
   have hV:=HV0.out;clear HV0 HG HR;have m72:=hV.c.at 72 (J Q q.clock) (by decide) D;have m73:=hV.c.at 73 (J Q q.mready) (by decide) D;have m76:=hV.took;obtain⟨mz,mf⟩:=hV.c.gz;have hcl:0<=q.clock/\q.clock<=200000:=hV.c.fit.clock;have x:0<=y.s.n:=hV.c.n;have m:=X.out;have hsn:=HSN.out;have w1':IntKind.i64.wrap (3*y.n)=3*y.n:=by rw[aH];omega
   have w2':IntKind.i64.wrap (q.clock+3*y.n)=q.clock+3*y.n:=by rw[aH];omega
   have w3':IntKind.i64.wrap (q.clock+3*y.n+y.s.n)=q.clock+3*y.n+y.s.n:=by rw[aH];omega
   have hfit:Mach.fit { q with mready:=q.clock+3*y.n+y.s.n }:={ hV.c.fit with main:=hV.c.fit.main,mready:=by show 0<=q.clock+3*y.n+y.s.n/\q.clock+3*y.n+y.s.n<=q.clock+20000;omega }
   have HV:=hid hV;have HFI:=hid hfit;have HKP:Hid (∀ θ,(V.setCell ⟨F.g,73,G⟩ θ).drew.cell? ⟨F.g,72,G⟩=A (J Q q.clock)/\(V.setCell ⟨F.g,73,G⟩ θ).drew.cell? ⟨F.g,76,G⟩=A (J Q y.s.n)):=λθ=>⟨(ap _ _ _ _ (by simp)).trans m72,(ap _ _ _ _ (by simp)).trans m76⟩
   clear hV hfit m hsn hcl x;go_wp2;go_region_held3 (λw'=>w'.cell? ⟨F.g,72,G⟩=A (J Q q.clock)/\w'.cell? ⟨F.g,76,G⟩=A (J Q y.s.n))
    (first|(go_keep;done)|with_reducible exact HKP.out _)
    (fail)
   go_wp2;exact HZ.out _ _ ⟨D,D,D,D,D,D⟩ ((HV.out.kept (aR V).drew).puts (M':={ q with mready:=q.clock+3*y.n+y.s.n }) HK.out 73 [J Q (q.clock+3*y.n+y.s.n)] (by simp) (λ_=>D) ⟨D,D,D,D,D⟩ HFI.out)
end
end Go.Proofs.YthghjlinhokimaaGreatDoor
