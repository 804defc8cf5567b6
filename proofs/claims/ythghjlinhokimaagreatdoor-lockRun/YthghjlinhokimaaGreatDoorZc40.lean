/-
  Parts of a proof, joined.
-/
import Derived.Test.YthghjlinhokimaaGreatDoorZcA
import Derived.Test.YthghjlinhokimaaGreatDoorZc39
set_option linter.all false
set_option maxRecDepth 100000
set_option maxHeartbeats 16000000
namespace Go.Proofs.YthghjlinhokimaaGreatDoor
open Go.ChangeShapes Go.WideShapes Go.ChangeAt Go.RowKit Go.Proofs.Tryz
section
variable {F : Gx} {N ob : Nat} {vl vs v : Value} {w W W1 : World} {s : Bst} {ln : List Lin} {sm : List UInt8} {M : Mach} {n : Int} {l : List Wt} {tg bg : Bool}
theorem zym(k:GK F N ob)(z:Code)(P:Ending->World->Prop)(a:Act)(hC:Ck a F.g v ob)(h:GV F N ob vl vs w s ln sm W)
 (hz:∀(a':Act) (W':World),Ck a' F.g v ob->GV F N ob vl vs w s.stepMain ln sm W'->Code.wp prog z (bodyPost prog Tryz.f41 P) a' W'):Code.wp prog (.seq (dN 0 (jc 4 eH)) z) (bodyPost prog Tryz.f41 P) a W:=by
 obtain⟨sz,df,s0,s1,s2,s6⟩:=hC;obtain⟨f,hf,rfl⟩:=vk a sz df;rw[hf] at s0 s1 s2 s6;clear hf sz df;rw[s0,s1,s2,s6];clear s0 s1 s2 s6;obtain⟨M,n,l⟩:=s;have m72:=h.c.at 72 (.int .i64 M.clock) (by decide) U;have m73:=h.c.at 73 (.int .i64 M.mready) (by decide) U;have m76:=h.took;obtain⟨mz,mf⟩:=h.c.gz;have HK:=hid k;have H:=hid h;have HZ:=hid hz;clear k h hz;conv=>arg 2;arg 1;dsimp only[jc,dN,eH,Tryz.f41,Option.getD]
 by_cases hr:M.clock<M.mready
 ·have e0:Bst.stepMain ⟨M,n,l⟩=⟨M,n,l⟩:=by unfold Bst.stepMain;exact Q hr
  rw[e0] at HZ;go_wp2;go_region_held3 (λw'=>w'.cell? ⟨F.g,73,none⟩=some (.int .i64 M.mready)/\w'.cell? ⟨F.g,72,none⟩=some (.int .i64 M.clock))
   ((go_keep;done))
   (fail)
  go_wp2;exact HZ.out _ _ ⟨U,U,U,U,U,U⟩ (H.out.kept (J W).drew)
 ·obtain⟨y,hy⟩:∃ y,y=C.step bD M.main ⟨M,0,l⟩ (M.t.g || M.b.g):=⟨_,U⟩
  obtain⟨q,hM3⟩:∃ q:Mach,q={ y.s.M with main:=y.c }:=⟨_,U⟩
  have e0:Bst.stepMain ⟨M,n,l⟩=⟨{ q with mready:=q.clock+3*y.n+y.s.n },y.s.n,y.s.l⟩:=by rw[hM3,hy];unfold Bst.stepMain;exact G hr
  rw[e0] at HZ;have HM3:=hid hM3;have hr':M.mready<=M.clock:=by omega
  have hfu:4<=bD.fuel ⟨M,0,l⟩:=by show 4<=(1000000000000-(0:Int)).toNat/510;decide
  have HD:=hid (λ(W:World) (n0:Nat) (h:KQ F N ob vl vs w ⟨M,0,l⟩ ln sm (nX F.g n0) W)=>zwJ HK.out h hfu (M.t.g || M.b.g));rw[show C.step bD M.main ⟨M,0,l⟩ (M.t.g || M.b.g)=y from hy.symm] at HD;obtain⟨tg,htg⟩:∃ b,M.t.g=b:=⟨_,U⟩
  obtain⟨bg,hbg⟩:∃ b,M.b.g=b:=⟨_,U⟩
  rw[htg,hbg] at HD;have I:=hid htg;have R:=hid hbg;clear htg hbg hy e0 hfu hM3 hr;go_wp2;go_region_held3 (λw'=>w'.cell? ⟨F.g,73,none⟩=some (.int .i64 M.mready)/\w'.cell? ⟨F.g,72,none⟩=some (.int .i64 M.clock))
   ((go_keep;done))
   (fail)
  go_upto_region 13 with fail
  refine Pl.cutW (GV F N ob vl vs w ⟨M,0,l⟩ ln sm) ((H.out.kept (J W).drew).delay HK.out) ?_;intro Y hY;have HX:=hid (hY.kept (J Y).drew);have d:=HX.out.ssM I.out R.out;have HZN:=hid (HX.out.nz HK.out);clear hY m72 m73 m76 mz mf hr' H;go_cut [9,10] (λp n W=>∃ b,p=.pointer (some ⟨b,0,none⟩)/\n=.int .i64 y.n/\y.c.ok/\(0<=y.n/\y.n<=21)/\bD.fuel ⟨M,0,l⟩<=bD.fuel y.s+4/\KR F N ob vl vs w y.s ln sm y.c b W)
  case first =>
   refine mI (S:=λw'=>w'.rangeAt F.g 0 (bG M.main)/\w'.cell? ⟨F.g,44,none⟩=some (.bool tg)/\w'.cell? ⟨F.g,63,none⟩=some (.bool bg)) (st:=18) (by kernel_rfl) ?_;refine bI 0 (λ_=>d) ?_;refine bI 1 (λ_=>d) ?_;refine bI 2 (λ_=>d) ?_;refine bI 4 (λ_=>d) ?_;refine bI 6 (λ_=>d) ?_;refine bI 7 (λ_=>d) ?_;refine bI 8 (λ_=>d) ?_;refine bI 9 (λ_=>d) ?_;refine nV [] 3 (.agg (bG M.main).toArray) U (λw' T=>kt 25 _ U F.g 0 U (bG M.main) _ T.1 underlying25 U lV) d ?_;refine j1 [11] 10 (λ_ T=>T.2.1) d ?_;refine zdj (i:=5) (j:=22) (oi:=⟨some 128,_,_,_,_,none⟩) (oj:=⟨some 9,_,_,_,_,none⟩) (by kernel_rfl) U U (λK k=>?_) (λK k=>?_)
   ·skip
    obtain⟨n0,x⟩:∃ n0,n0=Y.drew.heap.size:=⟨_,U⟩
    have hnN:N<=n0:=by rw[x];exact HZN.out
    go_simp;go_at_call 49
    refine(zvh F.g _ n0 x).mono ?_;rintro e w1 ⟨rfl,hbc,hxc⟩;have HQ:=hid (KQ.ofM hnN (HX.out.kept hbc) hxc);clear hxc x hnN;clear hbc;try go_wp2_with fail
    refine gL k (λ_=>HQ.out.c.ssM I.out R.out) ?_;clear k K;clear d;have d:=HQ.out.c.ssM I.out R.out;refine bI 11 (λ_=>d) ?_;cases tg
    case' false =>
     refine bI 12 (λ_=>d) ?_;refine bI 13 (λ_=>d) ?_;refine bI 14 (λ_=>d) ?_;refine bI 15 (λ_=>d) ?_;refine j1 [17] 16 (λ_ T=>T.2.2) d ?_
    case' true =>
     refine kH (i:=12) (oi:={ dst:=some 135,op:=_,type:=_,pos:=_,after:=_,guard:=some (11,false) }) (v:=undef) U (by kernel_rfl) (by kernel_rfl) (by kernel_rfl) (by decide) (λ_ _ _ h=>h) (Or.inr ⟨by rfl,U⟩) (λ_=>d) ?_;simp only[Act.put,xA,xB,xC];refine kH (i:=13) (oi:={ dst:=some 136,op:=_,type:=_,pos:=_,after:=_,guard:=some (11,false) }) (v:=undef) U (by kernel_rfl) (by kernel_rfl) (by kernel_rfl) (by decide) (λ_ _ _ h=>h) (Or.inr ⟨by rfl,U⟩) (λ_=>d) ?_;simp only[Act.put,xA,xB,xC];refine kH (i:=14) (oi:={ dst:=some 137,op:=_,type:=_,pos:=_,after:=_,guard:=some (11,false) }) (v:=undef) U (by kernel_rfl) (by kernel_rfl) (by kernel_rfl) (by decide) (λ_ _ _ h=>h) (Or.inr ⟨by rfl,U⟩) (λ_=>d) ?_;simp only[Act.put,xA,xB,xC];refine kH (i:=15) (oi:={ dst:=some 138,op:=_,type:=_,pos:=_,after:=_,guard:=some (11,false) }) (v:=undef) U (by kernel_rfl) (by kernel_rfl) (by kernel_rfl) (by decide) (λ_ _ _ h=>h) (Or.inr ⟨by rfl,U⟩) (λ_=>d) ?_
     simp only[Act.put,xA,xB,xC];refine kH (i:=16) (oi:={ dst:=some 139,op:=_,type:=_,pos:=_,after:=_,guard:=some (11,false) }) (v:=undef) U (by kernel_rfl) (by kernel_rfl) (by kernel_rfl) (by decide) (λ_ _ _ h=>h) (Or.inr ⟨by rfl,U⟩) (λ_=>d) ?_;simp only[Act.put,xA,xB,xC]
    all_goals
     refine bI 17 (λ_=>d) ?_;refine zdj (i:=18) (j:=22) (oi:=⟨some 141,_,_,_,_,none⟩) (oj:=⟨some 9,_,_,_,_,none⟩) (by kernel_rfl) U U (λK k=>?_) (λK k=>?_)
     ·skip
      go_simp;go_at_call 73
      refine(HD.out _ _ HQ.out).mono ?_;rintro e w2 ⟨rfl,B,o,m,r⟩;have E:=hid B;have X:=hid o;have Z:=hid m;have HFL:=hid r;clear B o m r;try go_wp2_with fail
      refine gL k (λh=>by simp at h) ?_;clear k K;refine bI 19 (λh=>by simp at h) ?_;refine bI 20 (λh=>by simp at h) ?_;refine bI 21 (λh=>by simp at h) ?_;refine fP 22 (λK k=>?_);go_simp;refine gL k (λh=>by simp at h) ?_;clear k K;have HE:=aJ w2 (.cells #[.int .u16 0,.int .u16 0,.int .u16 0,.int .u16 0,.int .u16 0,.int .u16 0,.int .u16 0,.int .u16 0,.int .u16 0,.bool false,.bool false,.bool false,.bool false,.bool false,.bool false] 25);have HT:=sV (L:=zL) HE U;refine fP 23 (λK k=>?_);refine lW U 25 _ _ U (w2.heap.size) 0 (bG y.c).toArray U U HT lV (pF y.c) ?_;refine k.out _ _ (λh=>by simp at h) ?_;clear k K;refine bI 24 (λh=>by simp at h) ?_;refine lL (by kernel_rfl) ?_ _;refine(by assumption:∀(a':Act) (w':World),Met _ a' w'->_) _ _ ?_;go_meet;exact⟨_,U,U,X.out,Z.out,HFL.out,KR.of (L:=zL) HK.out y.c U (E.out.c.kept (stA (J w2) _)) (ax (HQ.out.c.nz HK.out) E.out.z) HE⟩
     ·go_simp
      have HQ1:=hid (HQ.out.kept (stA (J w1) (.cells #[.int .u16 0,.int .u16 0,.int .u16 0,.int .u16 0,.int .u16 0,.int .u16 0,.int .u16 0,.int .u16 0,.int .u16 0,.bool false,.bool false,.bool false,.bool false,.bool false,.bool false] 25)));refine gL k (λ_=>HQ1.out.c.ssM I.out R.out) ?_;clear k K;refine fP 18 (λK k=>?_);go_simp;go_at_call 73
      refine(HD.out _ _ HQ1.out).mono ?_;rintro e w2 ⟨rfl,B,o,m,r⟩;have E:=hid B;have X:=hid o;have Z:=hid m;have HFL:=hid r;clear B o m r;try go_wp2_with fail
      refine gL k (λh=>by simp at h) ?_;clear k K;refine bI 19 (λh=>by simp at h) ?_;refine bI 20 (λh=>by simp at h) ?_;refine bI 21 (λh=>by simp at h) ?_;have HE:=E.out.p _ _ (HQ.out.c.nz HK.out) (aJ w1 (.cells #[.int .u16 0,.int .u16 0,.int .u16 0,.int .u16 0,.int .u16 0,.int .u16 0,.int .u16 0,.int .u16 0,.int .u16 0,.bool false,.bool false,.bool false,.bool false,.bool false,.bool false] 25));have HT:=sV (L:=zL) HE U;refine fP 23 (λK k=>?_);refine lW U 25 _ _ U (w1.heap.size) 0 (bG y.c).toArray U U HT lV (pF y.c) ?_;refine k.out _ _ (λh=>by simp at h) ?_;clear k K;refine bI 24 (λh=>by simp at h) ?_;refine lL (by kernel_rfl) ?_ _;refine(by assumption:∀(a':Act) (w':World),Met _ a' w'->_) _ _ ?_;go_meet;exact⟨_,U,U,X.out,Z.out,HFL.out,KR.of (L:=zL) HK.out y.c U E.out.c (HQ.out.c.nz HK.out) HE⟩
   ·go_simp
    have HXA:=hid (HX.out.kept (stA (J Y.drew) (.cells #[.int .u16 0,.int .u16 0,.int .u16 0,.int .u16 0,.int .u16 0,.int .u16 0,.int .u16 0,.int .u16 0,.int .u16 0,.bool false,.bool false,.bool false,.bool false,.bool false,.bool false] 25)));refine gL k (λ_=>HXA.out.ssM I.out R.out) ?_;clear k K;refine fP 5 (λK k=>?_);obtain⟨n0,x⟩:∃ n0,n0=(Y.drew.alloc (.cells #[.int .u16 0,.int .u16 0,.int .u16 0,.int .u16 0,.int .u16 0,.int .u16 0,.int .u16 0,.int .u16 0,.int .u16 0,.bool false,.bool false,.bool false,.bool false,.bool false,.bool false] 25)).heap.size:=⟨_,U⟩
    have hnN:N<=n0:=by rw[x];exact ax HZN.out (stA (J Y.drew) _).size
    go_simp;go_at_call 49
    refine(zvh F.g _ n0 x).mono ?_;rintro e w1 ⟨rfl,hbc,hxc⟩;have HQ:=hid (KQ.ofM hnN (HXA.out.kept hbc) hxc);clear hxc x hnN;have HP:=hid ((hbc.block Y.drew.heap.size (by simp)).trans (aJ Y.drew (.cells #[.int .u16 0,.int .u16 0,.int .u16 0,.int .u16 0,.int .u16 0,.int .u16 0,.int .u16 0,.int .u16 0,.int .u16 0,.bool false,.bool false,.bool false,.bool false,.bool false,.bool false] 25)));clear hbc;try go_wp2_with fail
    refine gL k (λ_=>HQ.out.c.ssM I.out R.out) ?_;clear k K;clear d;have d:=HQ.out.c.ssM I.out R.out;refine bI 11 (λ_=>d) ?_;cases tg
    case' false =>
     refine bI 12 (λ_=>d) ?_;refine bI 13 (λ_=>d) ?_;refine bI 14 (λ_=>d) ?_;refine bI 15 (λ_=>d) ?_;refine j1 [17] 16 (λ_ T=>T.2.2) d ?_
    case' true =>
     refine kH (i:=12) (oi:={ dst:=some 135,op:=_,type:=_,pos:=_,after:=_,guard:=some (11,false) }) (v:=undef) U (by kernel_rfl) (by kernel_rfl) (by kernel_rfl) (by decide) (λ_ _ _ h=>h) (Or.inr ⟨by rfl,U⟩) (λ_=>d) ?_;simp only[Act.put,xA,xB,xC];refine kH (i:=13) (oi:={ dst:=some 136,op:=_,type:=_,pos:=_,after:=_,guard:=some (11,false) }) (v:=undef) U (by kernel_rfl) (by kernel_rfl) (by kernel_rfl) (by decide) (λ_ _ _ h=>h) (Or.inr ⟨by rfl,U⟩) (λ_=>d) ?_;simp only[Act.put,xA,xB,xC];refine kH (i:=14) (oi:={ dst:=some 137,op:=_,type:=_,pos:=_,after:=_,guard:=some (11,false) }) (v:=undef) U (by kernel_rfl) (by kernel_rfl) (by kernel_rfl) (by decide) (λ_ _ _ h=>h) (Or.inr ⟨by rfl,U⟩) (λ_=>d) ?_;simp only[Act.put,xA,xB,xC];refine kH (i:=15) (oi:={ dst:=some 138,op:=_,type:=_,pos:=_,after:=_,guard:=some (11,false) }) (v:=undef) U (by kernel_rfl) (by kernel_rfl) (by kernel_rfl) (by decide) (λ_ _ _ h=>h) (Or.inr ⟨by rfl,U⟩) (λ_=>d) ?_
     simp only[Act.put,xA,xB,xC];refine kH (i:=16) (oi:={ dst:=some 139,op:=_,type:=_,pos:=_,after:=_,guard:=some (11,false) }) (v:=undef) U (by kernel_rfl) (by kernel_rfl) (by kernel_rfl) (by decide) (λ_ _ _ h=>h) (Or.inr ⟨by rfl,U⟩) (λ_=>d) ?_;simp only[Act.put,xA,xB,xC]
    all_goals
     refine bI 17 (λ_=>d) ?_;refine fP 18 (λK k=>?_);go_simp;go_at_call 73
     refine(HD.out _ _ HQ.out).mono ?_;rintro e w2 ⟨rfl,B,o,m,r⟩;have E:=hid B;have X:=hid o;have Z:=hid m;have HFL:=hid r;clear B o m r;try go_wp2_with fail
     refine gL k (λh=>by simp at h) ?_;clear k K;refine bI 19 (λh=>by simp at h) ?_;refine bI 20 (λh=>by simp at h) ?_;refine bI 21 (λh=>by simp at h) ?_;have HE:=E.out.p _ _ HZN.out HP.out;have HT:=sV (L:=zL) HE U;refine fP 23 (λK k=>?_);refine lW U 25 _ _ U (Y.drew.heap.size) 0 (bG y.c).toArray U U HT lV (pF y.c) ?_;refine k.out _ _ (λh=>by simp at h) ?_;clear k K;refine bI 24 (λh=>by simp at h) ?_;refine lL (by kernel_rfl) ?_ _;refine(by assumption:∀(a':Act) (w':World),Met _ a' w'->_) _ _ ?_;go_meet;exact⟨_,U,U,X.out,Z.out,HFL.out,KR.of (L:=zL) HK.out y.c U E.out.c HZN.out HE⟩
  case rest =>
   obtain⟨b,rfl,rfl,hok,m,r,hR⟩:=hcut;have hsn:y.s.n<=2550:=by
    have h0:(1000000000000-(0:Int)).toNat/510<=(1000000000000-y.s.n).toNat/510+4:=r;omega
   have HR:=hid hR;have X:=hid hok;have Z:=hid m;have HSN:=hid hsn;clear hR hok m r d HX HD hsn;have hG:=HR.out.c.puts (M':={ y.s.M with main:=y.c }) HK.out 0 (bG y.c) (by simp[bG]) (λtk=>F.putMain y.s.M tk y.c) ⟨U,U,U,U,U⟩ { HR.out.c.c.fit with main:=X.out };rw[<- HM3.out] at hG;have HG:=hid hG;clear hG;go_upto_region 15 with(first
    | (refine wpList_load_mid U 25 _ U b 0 U (bG y.c) _ HR.out.p.c underlying25 U lV ?_)
    | (refine wpList_store_mid U 25 _ _ U F.g 0 (bG y.c).toArray U U (HR.out.c.c.th 0 15 (by decide)) lV (pF y.c) ?_
       refine Pl.cutL (GV F N ob vl vs w ⟨q,y.s.n,y.s.l⟩ ln sm) HG.out ?_;intro V hV0;have HV0:=hid hV0;clear hV0))
   have hV:=HV0.out;clear HV0 HG HR;have m72:=hV.c.at 72 (.int .i64 q.clock) (by decide) U;have m73:=hV.c.at 73 (.int .i64 q.mready) (by decide) U;have m76:=hV.took;obtain⟨mz,mf⟩:=hV.c.gz;have hcl:0<=q.clock/\q.clock<=200000:=hV.c.fit.clock;have x:0<=y.s.n:=hV.c.n;have m:=Z.out;have hsn:=HSN.out;have w1':IntKind.i64.wrap (3*y.n)=3*y.n:=by rw[aI];omega
   have w2':IntKind.i64.wrap (q.clock+3*y.n)=q.clock+3*y.n:=by rw[aI];omega
   have w3':IntKind.i64.wrap (q.clock+3*y.n+y.s.n)=q.clock+3*y.n+y.s.n:=by rw[aI];omega
   have hfit:Mach.fit { q with mready:=q.clock+3*y.n+y.s.n }:={ hV.c.fit with main:=hV.c.fit.main,mready:=by show 0<=q.clock+3*y.n+y.s.n/\q.clock+3*y.n+y.s.n<=q.clock+20000;omega }
   have HV:=hid hV;have HFI:=hid hfit;have HKP:Hid (∀ u,(V.setCell ⟨F.g,73,none⟩ u).drew.cell? ⟨F.g,72,none⟩=some (.int .i64 q.clock)/\(V.setCell ⟨F.g,73,none⟩ u).drew.cell? ⟨F.g,76,none⟩=some (.int .i64 y.s.n)):=λu=>⟨(az _ _ _ _ (by simp)).trans m72,(az _ _ _ _ (by simp)).trans m76⟩
   clear hV hfit m hsn hcl x;go_wp2;go_region_held3 (λw'=>w'.cell? ⟨F.g,72,none⟩=some (.int .i64 q.clock)/\w'.cell? ⟨F.g,76,none⟩=some (.int .i64 y.s.n))
    (first|(go_keep;done)|with_reducible exact HKP.out _)
    (fail)
   go_wp2;exact HZ.out _ _ ⟨U,U,U,U,U,U⟩ ((HV.out.kept (J V).drew).puts (M':={ q with mready:=q.clock+3*y.n+y.s.n }) HK.out 73 [.int .i64 (q.clock+3*y.n+y.s.n)] (by simp) (λ_=>U) ⟨U,U,U,U,U⟩ HFI.out)
end
end Go.Proofs.YthghjlinhokimaaGreatDoor
