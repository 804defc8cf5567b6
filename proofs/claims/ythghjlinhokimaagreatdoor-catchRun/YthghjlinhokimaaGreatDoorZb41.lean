/-
  Parts of a proof, joined.
-/
import Derived.Test.YthghjlinhokimaaGreatDoorZbA
import Derived.Test.YthghjlinhokimaaGreatDoorZb39
set_option linter.all false
set_option maxRecDepth 100000
set_option maxHeartbeats 16000000
open Option renaming none->G,some->A
open Go renaming World->u,undef->dF
open Bool renaming false->ξ,true->Γ
open Go.Act renaming put->ag
open Or renaming inr->ao
open Go.Value renaming int->J,bool->ν
open Go.IntKind renaming i64->Q,u16->Y
open Go.Obj renaming cells->χ
namespace Go.Proofs.YthghjlinhokimaaGreatDoor
open Go.ChangeShapes Go.WideShapes Go.ChangeAt Go.RowKit Go.Proofs.Tryz
section
variable {F : Gx} {N ob : Nat} {vl vs v : Value} {w W W1 : u} {s : Bst} {ln : List Lin} {sm : List UInt8} {M : Mach} {n : Int} {l : List Wt} {tg bg : Bool}
theorem CK(d:GK F N ob)(z:Code)(P:Ending->u->Prop)(a:Act)(hC:Ck a F.g v ob)(h:GV F N ob vl vs w s ln sm W)(hl:s.l.length<=1000000)
 (hz:∀(a':Act) (W':u),Ck a' F.g v ob->GV F N ob vl vs w s.stepAux ln sm W'->Code.wp prog z (bodyPost prog Tryz.f41 P) a' W'):Code.wp prog (.seq (gK 0 (mn 5 iE)) z) (bodyPost prog Tryz.f41 P) a W:=by
 obtain⟨sz,df,s0,s1,s2,s6⟩:=hC;obtain⟨f,hf,rfl⟩:=AY a sz df;rw[hf] at s0 s1 s2 s6;clear hf sz df;rw[s0,s1,s2,s6];clear s0 s1 s2 s6;obtain⟨M,n,l⟩:=s;have m72:=h.c.at 72 (J Q M.clock) (by decide) D;have m74:=h.c.at 74 (J Q M.aready) (by decide) D;have m68:=h.c.at 68 (ν M.held) (by decide) D;obtain⟨mz,mf⟩:=h.c.gz;have HK:=hid d;have H:=hid h;have HZ:=hid hz;clear d h hz;conv=>arg 2;arg 1;dsimp only[mn,gK,iE,Tryz.f41,Option.getD]
 obtain⟨hd,B⟩:∃ b,M.held=b:=⟨_,D⟩
 rw[B] at m68;cases hd
 case' true =>
  have e0:Bst.stepAux ⟨M,n,l⟩=⟨M,n,l⟩:=by unfold Bst.stepAux;exact am (Or.inl B)
  rw[e0] at HZ;go_wp2;have HW:=hid (H.out.kept (aR W).drew);have k:=HW.out.c.at 68 (ν Γ) (by decide) (by rw[<- B];rfl);clear B m68 m72 m74 mz mf H;refine qp (S:=λw'=>w'.cell? ⟨F.g,68,G⟩=A (ν Γ)) (st:=15) (by kernel_rfl) ?_;refine b8 0 (λ_=>k) ?_;refine b8 1 (λ_=>k) ?_;refine b8 2 (λ_=>k) ?_;refine rA [15,5,4] (i:=3) (oi:=⟨A 166,_,_,_,_,G⟩) (v:=ν Γ) D (Or.inl ⟨by rfl,?_⟩) k ?_
  ·intro w' X
   have hcc:=X;have hcz:=aC w' _ hcc;go_simp;try (with_reducible rfl)
  simp only[ag,xA,xB,xC];refine b8 4 (λ_=>k) ?_;refine b8 5 (λ_=>k) ?_;refine oS (i:=6) (oi:={ dst:=A 169,op:=_,type:=_,pos:=_,after:=_,guard:=A (5,Γ) }) (v:=dF) D (by kernel_rfl) (by kernel_rfl) (by kernel_rfl) (by decide) (λ_ _ _ h=>h) (ao ⟨by rfl,D⟩) (λ_=>k) ?_;simp only[ag,xA,xB,xC];refine oS (i:=7) (oi:={ dst:=A 170,op:=_,type:=_,pos:=_,after:=_,guard:=A (5,Γ) }) (v:=dF) D (by kernel_rfl) (by kernel_rfl) (by kernel_rfl) (by decide) (λ_ _ _ h=>h) (ao ⟨by rfl,D⟩) (λ_=>k) ?_;simp only[ag,xA,xB,xC];refine oS (i:=8) (oi:={ dst:=A 171,op:=_,type:=_,pos:=_,after:=_,guard:=A (5,Γ) }) (v:=dF) D (by kernel_rfl) (by kernel_rfl) (by kernel_rfl) (by decide) (λ_ _ _ h=>h) (ao ⟨by rfl,D⟩) (λ_=>k) ?_;simp only[ag,xA,xB,xC];refine oS (i:=9) (oi:={ dst:=A 172,op:=_,type:=_,pos:=_,after:=_,guard:=A (5,Γ) }) (v:=dF) D (by kernel_rfl) (by kernel_rfl) (by kernel_rfl) (by decide) (λ_ _ _ h=>h) (ao ⟨by rfl,D⟩) (λ_=>k) ?_
  simp only[ag,xA,xB,xC];refine oS (i:=10) (oi:={ dst:=A 173,op:=_,type:=_,pos:=_,after:=_,guard:=A (5,Γ) }) (v:=dF) D (by kernel_rfl) (by kernel_rfl) (by kernel_rfl) (by decide) (λ_ _ _ h=>h) (ao ⟨by rfl,D⟩) (λ_=>k) ?_;simp only[ag,xA,xB,xC];refine oS (i:=11) (oi:={ dst:=A 174,op:=_,type:=_,pos:=_,after:=_,guard:=A (5,Γ) }) (v:=dF) D (by kernel_rfl) (by kernel_rfl) (by kernel_rfl) (by decide) (λ_ _ _ h=>h) (ao ⟨by rfl,D⟩) (λ_=>k) ?_;simp only[ag,xA,xB,xC];refine oS (i:=12) (oi:={ dst:=A 175,op:=_,type:=_,pos:=_,after:=_,guard:=A (5,Γ) }) (v:=dF) D (by kernel_rfl) (by kernel_rfl) (by kernel_rfl) (by decide) (λ_ _ _ h=>h) (ao ⟨by rfl,D⟩) (λ_=>k) ?_;simp only[ag,xA,xB,xC];refine oS (i:=13) (oi:={ dst:=A 176,op:=_,type:=_,pos:=_,after:=_,guard:=A (5,Γ) }) (v:=dF) D (by kernel_rfl) (by kernel_rfl) (by kernel_rfl) (by decide) (λ_ _ _ h=>h) (ao ⟨by rfl,D⟩) (λ_=>k) ?_;simp only[ag,xA,xB,xC];refine oS (i:=14) (oi:={ dst:=A 177,op:=_,type:=_,pos:=_,after:=_,guard:=A (5,Γ) }) (v:=dF) D (by kernel_rfl) (by kernel_rfl) (by kernel_rfl) (by decide) (λ_ _ _ h=>h) (ao ⟨by rfl,D⟩) (λ_=>k) ?_
  simp only[ag,xA,xB,xC];refine jy 15 (λK d=>?_);go_simp;refine jV d (λh=>by simp at h) ?_;clear d K;refine pq (by kernel_rfl) ?_ _;go_wp2;exact HZ.out _ _ ⟨D,D,D,D,D,D⟩ HW.out
 case' false =>
  by_cases hr:M.clock<M.aready
  ·have e0:Bst.stepAux ⟨M,n,l⟩=⟨M,n,l⟩:=by unfold Bst.stepAux;exact am (ao hr)
   rw[e0] at HZ;clear B;go_wp2;go_region_held3 (λw'=>w'.cell? ⟨F.g,68,G⟩=A (ν ξ)/\w'.cell? ⟨F.g,74,G⟩=A (J Q M.aready)/\w'.cell? ⟨F.g,72,G⟩=A (J Q M.clock))
    ((go_keep;done))
    (fail)
   go_wp2;exact HZ.out _ _ ⟨D,D,D,D,D,D⟩ (H.out.kept (aR W).drew)
  ·obtain⟨y,hy⟩:∃ y,y=C.step cL M.aux ⟨M,n,l⟩ M.rung:=⟨_,D⟩
   obtain⟨r,hM3⟩:∃ r:Mach,r={ y.s.M with aux:=y.c }:=⟨_,D⟩
   have e0:Bst.stepAux ⟨M,n,l⟩=⟨{ r with aready:=r.clock+5*y.n },y.s.n,y.s.l⟩:=by
    rw[hM3,hy];unfold Bst.stepAux;exact ae (λe=>e.elim (λe=>by rw[B] at e;cases e) hr)
   rw[e0] at HZ;have HM3:=hid hM3;have hr':M.aready<=M.clock:=by omega
   have hfu:4<=cL.fuel ⟨M,n,l⟩:=by
    show 4<=1000000001-l.length;have:l.length<=1000000:=hl;omega
   have HD:=hid (λ(W:u) (Z:Nat) (h:KQ F N ob vl vs w ⟨M,n,l⟩ ln sm (tO F.g Z) W)=>zzG HK.out h hfu M.rung);rw[show C.step cL M.aux ⟨M,n,l⟩ M.rung=y from hy.symm] at HD;obtain⟨tg,htg⟩:∃ b,M.rung=b:=⟨_,D⟩
   rw[htg] at HD;have E:=hid htg;clear htg hy e0 hfu hM3 hr B hl;go_wp2;go_region_held3 (λw'=>w'.cell? ⟨F.g,68,G⟩=A (ν ξ)/\w'.cell? ⟨F.g,74,G⟩=A (J Q M.aready)/\w'.cell? ⟨F.g,72,G⟩=A (J Q M.clock))
    ((go_keep;done))
    (fail)
   go_upto_region 17 with fail
   refine Pl.cutW (GV F N ob vl vs w ⟨M,n,l⟩ ln sm) (H.out.kept (aR W).drew) ?_;intro ι hY;have HX:=hid (hY.kept (aR ι).drew);have k:=HX.out.ssA E.out;have HZN:=hid (HX.out.nz HK.out);clear hY m72 m74 m68 mz mf hr' H;go_cut [11,12] (λp n1 W=>∃ b,p=.pointer (A ⟨b,0,G⟩)/\n1=J Q y.n/\y.c.ok/\(0<=y.n/\y.n<=21)/\cL.fuel ⟨M,n,l⟩<=cL.fuel y.s+4/\KR F N ob vl vs w y.s ln sm y.c b W)
   case first =>
    refine qp (S:=λw'=>w'.rangeAt F.g 15 (bY M.aux)/\w'.cell? ⟨F.g,71,G⟩=A (ν tg)) (st:=10) (by kernel_rfl) ?_;refine b8 0 (λ_=>k) ?_;refine b8 1 (λ_=>k) ?_;refine b8 2 (λ_=>k) ?_;refine b8 4 (λ_=>k) ?_;refine b8 6 (λ_=>k) ?_;refine b8 7 (λ_=>k) ?_;refine b8 8 (λ_=>k) ?_;refine sf [] 3 (.agg (bY M.aux).toArray) D (λw' X=>ml 25 _ D F.g 15 D (bY M.aux) _ X.1 underlying25 D pO) k ?_;refine kU [] 9 (λ_ X=>X.2) k ?_;refine zdK (i:=5) (j:=14) (oi:=⟨A 185,_,_,_,_,G⟩) (oj:=⟨A 11,_,_,_,_,G⟩) (by kernel_rfl) D D (λK d=>?_) (λK d=>?_)
    ·skip
     obtain⟨Z,I⟩:∃ Z,Z=ι.drew.heap.size:=⟨_,D⟩
     have hnN:N<=Z:=by rw[I];exact HZN.out
     go_simp;go_at_call 74
     refine(zye F.g _ Z I).mono ?_;rintro e w1 ⟨rfl,U,hxc⟩;have HQ:=hid (KQ.ofA hnN (HX.out.kept U) hxc);clear hxc I hnN;clear U;try go_wp2_with fail
     refine jV d (λ_=>HQ.out.c.ssA E.out) ?_;clear d K;clear k;have k:=HQ.out.c.ssA E.out;refine zdK (i:=10) (j:=14) (oi:=⟨A 190,_,_,_,_,G⟩) (oj:=⟨A 11,_,_,_,_,G⟩) (by kernel_rfl) D D (λK d=>?_) (λK d=>?_)
     ·skip
      go_simp;go_at_call 73
      refine(HD.out _ _ HQ.out).mono ?_;rintro e w2 ⟨rfl,t,o,m,q⟩;have x:=hid t;have R:=hid o;have T:=hid m;have HFL:=hid q;clear t o m q;try go_wp2_with fail
      refine jV d (λh=>by simp at h) ?_;clear d K;refine b8 11 (λh=>by simp at h) ?_;refine b8 12 (λh=>by simp at h) ?_;refine b8 13 (λh=>by simp at h) ?_;refine jy 14 (λK d=>?_);go_simp;refine jV d (λh=>by simp at h) ?_;clear d K;have HE:=aM w2 (χ #[J Y 0,J Y 0,J Y 0,J Y 0,J Y 0,J Y 0,J Y 0,J Y 0,J Y 0,ν ξ,ν ξ,ν ξ,ν ξ,ν ξ,ν ξ] 25);have HT:=zT (L:=zL) HE D;refine jy 15 (λK d=>?_);refine pH D 25 _ _ D (w2.heap.size) 0 (bY y.c).toArray D D HT pO (vR y.c) ?_;refine d.out _ _ (λh=>by simp at h) ?_;clear d K;refine b8 16 (λh=>by simp at h) ?_;refine pq (by kernel_rfl) ?_ _;refine(by assumption:∀(a':Act) (w':u),Met _ a' w'->_) _ _ ?_;go_meet;exact⟨_,D,D,R.out,T.out,HFL.out,KR.of (L:=zL) HK.out y.c D (x.out.c.kept (stA (aR w2) _)) (ax (HQ.out.c.nz HK.out) x.out.z) HE⟩
     ·go_simp
      have HQ1:=hid (HQ.out.kept (stA (aR w1) (χ #[J Y 0,J Y 0,J Y 0,J Y 0,J Y 0,J Y 0,J Y 0,J Y 0,J Y 0,ν ξ,ν ξ,ν ξ,ν ξ,ν ξ,ν ξ] 25)));refine jV d (λ_=>HQ1.out.c.ssA E.out) ?_;clear d K;refine jy 10 (λK d=>?_);go_simp;go_at_call 73
      refine(HD.out _ _ HQ1.out).mono ?_;rintro e w2 ⟨rfl,t,o,m,q⟩;have x:=hid t;have R:=hid o;have T:=hid m;have HFL:=hid q;clear t o m q;try go_wp2_with fail
      refine jV d (λh=>by simp at h) ?_;clear d K;refine b8 11 (λh=>by simp at h) ?_;refine b8 12 (λh=>by simp at h) ?_;refine b8 13 (λh=>by simp at h) ?_;have HE:=x.out.p _ _ (HQ.out.c.nz HK.out) (aM w1 (χ #[J Y 0,J Y 0,J Y 0,J Y 0,J Y 0,J Y 0,J Y 0,J Y 0,J Y 0,ν ξ,ν ξ,ν ξ,ν ξ,ν ξ,ν ξ] 25));have HT:=zT (L:=zL) HE D;refine jy 15 (λK d=>?_);refine pH D 25 _ _ D (w1.heap.size) 0 (bY y.c).toArray D D HT pO (vR y.c) ?_;refine d.out _ _ (λh=>by simp at h) ?_;clear d K;refine b8 16 (λh=>by simp at h) ?_;refine pq (by kernel_rfl) ?_ _;refine(by assumption:∀(a':Act) (w':u),Met _ a' w'->_) _ _ ?_;go_meet;exact⟨_,D,D,R.out,T.out,HFL.out,KR.of (L:=zL) HK.out y.c D x.out.c (HQ.out.c.nz HK.out) HE⟩
    ·go_simp
     have HXA:=hid (HX.out.kept (stA (aR ι.drew) (χ #[J Y 0,J Y 0,J Y 0,J Y 0,J Y 0,J Y 0,J Y 0,J Y 0,J Y 0,ν ξ,ν ξ,ν ξ,ν ξ,ν ξ,ν ξ] 25)));refine jV d (λ_=>HXA.out.ssA E.out) ?_;clear d K;refine jy 5 (λK d=>?_);obtain⟨Z,I⟩:∃ Z,Z=(ι.drew.alloc (χ #[J Y 0,J Y 0,J Y 0,J Y 0,J Y 0,J Y 0,J Y 0,J Y 0,J Y 0,ν ξ,ν ξ,ν ξ,ν ξ,ν ξ,ν ξ] 25)).heap.size:=⟨_,D⟩
     have hnN:N<=Z:=by rw[I];exact ax HZN.out (stA (aR ι.drew) _).size
     go_simp;go_at_call 74
     refine(zye F.g _ Z I).mono ?_;rintro e w1 ⟨rfl,U,hxc⟩;have HQ:=hid (KQ.ofA hnN (HXA.out.kept U) hxc);clear hxc I hnN;have HP:=hid ((U.block ι.drew.heap.size (by simp)).trans (aM ι.drew (χ #[J Y 0,J Y 0,J Y 0,J Y 0,J Y 0,J Y 0,J Y 0,J Y 0,J Y 0,ν ξ,ν ξ,ν ξ,ν ξ,ν ξ,ν ξ] 25)));clear U;try go_wp2_with fail
     refine jV d (λ_=>HQ.out.c.ssA E.out) ?_;clear d K;clear k;have k:=HQ.out.c.ssA E.out;refine jy 10 (λK d=>?_);go_simp;go_at_call 73
     refine(HD.out _ _ HQ.out).mono ?_;rintro e w2 ⟨rfl,t,o,m,q⟩;have x:=hid t;have R:=hid o;have T:=hid m;have HFL:=hid q;clear t o m q;try go_wp2_with fail
     refine jV d (λh=>by simp at h) ?_;clear d K;refine b8 11 (λh=>by simp at h) ?_;refine b8 12 (λh=>by simp at h) ?_;refine b8 13 (λh=>by simp at h) ?_;have HE:=x.out.p _ _ HZN.out HP.out;have HT:=zT (L:=zL) HE D;refine jy 15 (λK d=>?_);refine pH D 25 _ _ D (ι.drew.heap.size) 0 (bY y.c).toArray D D HT pO (vR y.c) ?_;refine d.out _ _ (λh=>by simp at h) ?_;clear d K;refine b8 16 (λh=>by simp at h) ?_;refine pq (by kernel_rfl) ?_ _;refine(by assumption:∀(a':Act) (w':u),Met _ a' w'->_) _ _ ?_;go_meet;exact⟨_,D,D,R.out,T.out,HFL.out,KR.of (L:=zL) HK.out y.c D x.out.c HZN.out HE⟩
   case rest =>
    obtain⟨b,rfl,rfl,hok,m,q,hR⟩:=hcut;have HR:=hid hR;have R:=hid hok;have T:=hid m;clear hR hok m q k HX HD;have hG:=HR.out.c.puts (M':={ y.s.M with aux:=y.c }) HK.out 15 (bY y.c) (by simp[bY]) (λtk=>F.putAux y.s.M tk y.c) ⟨D,D,D,D,D⟩ { HR.out.c.c.fit with main:=HR.out.c.c.fit.main,aux:=R.out };rw[<- HM3.out] at hG;have HG:=hid hG;clear hG;go_upto_region 19 with(first
     | (refine wpList_load_mid D 25 _ D b 0 D (bY y.c) _ HR.out.p.c underlying25 D pO ?_)
     | (refine wpList_store_mid D 25 _ _ D F.g 15 (bY y.c).toArray D D (HR.out.c.c.th 15 15 (by decide)) pO (vR y.c) ?_
        refine Pl.cutL (GV F N ob vl vs w ⟨r,y.s.n,y.s.l⟩ ln sm) HG.out ?_;intro V hV0;have HV0:=hid hV0;clear hV0))
    have hV:=HV0.out;clear HV0 HG HR;have m72:=hV.c.at 72 (J Q r.clock) (by decide) D;have m74:=hV.c.at 74 (J Q r.aready) (by decide) D;obtain⟨mz,mf⟩:=hV.c.gz;have hcl:0<=r.clock/\r.clock<=200000:=hV.c.fit.clock;have m:=T.out;have w1':IntKind.i64.wrap (5*y.n)=5*y.n:=by rw[aH];omega
    have w2':IntKind.i64.wrap (r.clock+5*y.n)=r.clock+5*y.n:=by rw[aH];omega
    have hfit:Mach.fit { r with aready:=r.clock+5*y.n }:={ hV.c.fit with main:=hV.c.fit.main,aready:=by show 0<=r.clock+5*y.n/\r.clock+5*y.n<=r.clock+20000;omega }
    have HV:=hid hV;have HFI:=hid hfit;clear hV hfit m hcl;go_wp2;exact HZ.out _ _ ⟨D,D,D,D,D,D⟩ (HV.out.puts (M':={ r with aready:=r.clock+5*y.n }) HK.out 74 [J Q (r.clock+5*y.n)] (by simp) (λ_=>D) ⟨D,D,D,D,D⟩ HFI.out)
end
end Go.Proofs.YthghjlinhokimaaGreatDoor
