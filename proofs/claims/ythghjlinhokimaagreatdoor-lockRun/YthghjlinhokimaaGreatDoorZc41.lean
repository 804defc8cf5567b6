/-
  Parts of a proof, joined.
-/
import Derived.Test.YthghjlinhokimaaGreatDoorZcA
import Derived.Test.YthghjlinhokimaaGreatDoorZc39
set_option linter.all false
set_option maxRecDepth 100000
set_option maxHeartbeats 16000000
namespace Go.Proofs.YthghjlinhokimaaGreatDoor
open Go.ChangeShapes Go.WideShapes Go.ChangeAt Go.RowKit Go.Proofs.Tryz
section
variable {F : Gx} {N ob : Nat} {vl vs v : Value} {w W W1 : World} {s : Bst} {ln : List Lin} {sm : List UInt8} {M : Mach} {n : Int} {l : List Wt} {tg bg : Bool}
theorem xx(d:GK F N ob)(z:Code)(P:Ending->World->Prop)(a:Act)(hC:Ck a F.g v ob)(h:GV F N ob vl vs w s ln sm W)(hl:s.l.length<=1000000)
 (hz:∀(a':Act) (W':World),Ck a' F.g v ob->GV F N ob vl vs w s.stepAux ln sm W'->Code.wp prog z (bodyPost prog Tryz.f41 P) a' W'):Code.wp prog (.seq (dN 0 (jc 5 eH)) z) (bodyPost prog Tryz.f41 P) a W:=by
 obtain⟨sz,df,s0,s1,s2,s6⟩:=hC;obtain⟨f,hf,rfl⟩:=vk a sz df;rw[hf] at s0 s1 s2 s6;clear hf sz df;rw[s0,s1,s2,s6];clear s0 s1 s2 s6;obtain⟨M,n,l⟩:=s;have m72:=h.c.at 72 (.int .i64 M.clock) (by decide) U;have m74:=h.c.at 74 (.int .i64 M.aready) (by decide) U;have m68:=h.c.at 68 (.bool M.held) (by decide) U;obtain⟨mz,mf⟩:=h.c.gz;have HK:=hid d;have H:=hid h;have HZ:=hid hz;clear d h hz;conv=>arg 2;arg 1;dsimp only[jc,dN,eH,Tryz.f41,Option.getD]
 obtain⟨hd,x⟩:∃ b,M.held=b:=⟨_,U⟩
 rw[x] at m68;cases hd
 case' true =>
  have e0:Bst.stepAux ⟨M,n,l⟩=⟨M,n,l⟩:=by unfold Bst.stepAux;exact Q (Or.inl x)
  rw[e0] at HZ;go_wp2;have HW:=hid (H.out.kept (J W).drew);have k:=HW.out.c.at 68 (.bool true) (by decide) (by rw[<- x];rfl);clear x m68 m72 m74 mz mf H;refine mI (S:=λw'=>w'.cell? ⟨F.g,68,none⟩=some (.bool true)) (st:=15) (by kernel_rfl) ?_;refine bI 0 (λ_=>k) ?_;refine bI 1 (λ_=>k) ?_;refine bI 2 (λ_=>k) ?_;refine mJ [15,5,4] (i:=3) (oi:=⟨some 166,_,_,_,_,none⟩) (v:=.bool true) U (Or.inl ⟨by rfl,?_⟩) k ?_
  ·intro w' X
   have hcc:=X;have hcz:=aG w' _ hcc;go_simp;try (with_reducible rfl)
  simp only[Act.put,xA,xB,xC];refine bI 4 (λ_=>k) ?_;refine bI 5 (λ_=>k) ?_;refine kH (i:=6) (oi:={ dst:=some 169,op:=_,type:=_,pos:=_,after:=_,guard:=some (5,true) }) (v:=undef) U (by kernel_rfl) (by kernel_rfl) (by kernel_rfl) (by decide) (λ_ _ _ h=>h) (Or.inr ⟨by rfl,U⟩) (λ_=>k) ?_;simp only[Act.put,xA,xB,xC];refine kH (i:=7) (oi:={ dst:=some 170,op:=_,type:=_,pos:=_,after:=_,guard:=some (5,true) }) (v:=undef) U (by kernel_rfl) (by kernel_rfl) (by kernel_rfl) (by decide) (λ_ _ _ h=>h) (Or.inr ⟨by rfl,U⟩) (λ_=>k) ?_;simp only[Act.put,xA,xB,xC];refine kH (i:=8) (oi:={ dst:=some 171,op:=_,type:=_,pos:=_,after:=_,guard:=some (5,true) }) (v:=undef) U (by kernel_rfl) (by kernel_rfl) (by kernel_rfl) (by decide) (λ_ _ _ h=>h) (Or.inr ⟨by rfl,U⟩) (λ_=>k) ?_;simp only[Act.put,xA,xB,xC];refine kH (i:=9) (oi:={ dst:=some 172,op:=_,type:=_,pos:=_,after:=_,guard:=some (5,true) }) (v:=undef) U (by kernel_rfl) (by kernel_rfl) (by kernel_rfl) (by decide) (λ_ _ _ h=>h) (Or.inr ⟨by rfl,U⟩) (λ_=>k) ?_
  simp only[Act.put,xA,xB,xC];refine kH (i:=10) (oi:={ dst:=some 173,op:=_,type:=_,pos:=_,after:=_,guard:=some (5,true) }) (v:=undef) U (by kernel_rfl) (by kernel_rfl) (by kernel_rfl) (by decide) (λ_ _ _ h=>h) (Or.inr ⟨by rfl,U⟩) (λ_=>k) ?_;simp only[Act.put,xA,xB,xC];refine kH (i:=11) (oi:={ dst:=some 174,op:=_,type:=_,pos:=_,after:=_,guard:=some (5,true) }) (v:=undef) U (by kernel_rfl) (by kernel_rfl) (by kernel_rfl) (by decide) (λ_ _ _ h=>h) (Or.inr ⟨by rfl,U⟩) (λ_=>k) ?_;simp only[Act.put,xA,xB,xC];refine kH (i:=12) (oi:={ dst:=some 175,op:=_,type:=_,pos:=_,after:=_,guard:=some (5,true) }) (v:=undef) U (by kernel_rfl) (by kernel_rfl) (by kernel_rfl) (by decide) (λ_ _ _ h=>h) (Or.inr ⟨by rfl,U⟩) (λ_=>k) ?_;simp only[Act.put,xA,xB,xC];refine kH (i:=13) (oi:={ dst:=some 176,op:=_,type:=_,pos:=_,after:=_,guard:=some (5,true) }) (v:=undef) U (by kernel_rfl) (by kernel_rfl) (by kernel_rfl) (by decide) (λ_ _ _ h=>h) (Or.inr ⟨by rfl,U⟩) (λ_=>k) ?_
  simp only[Act.put,xA,xB,xC];refine kH (i:=14) (oi:={ dst:=some 177,op:=_,type:=_,pos:=_,after:=_,guard:=some (5,true) }) (v:=undef) U (by kernel_rfl) (by kernel_rfl) (by kernel_rfl) (by decide) (λ_ _ _ h=>h) (Or.inr ⟨by rfl,U⟩) (λ_=>k) ?_;simp only[Act.put,xA,xB,xC];refine fP 15 (λK d=>?_);go_simp;refine gL d (λh=>by simp at h) ?_;clear d K;refine lL (by kernel_rfl) ?_ _;go_wp2;exact HZ.out _ _ ⟨U,U,U,U,U,U⟩ HW.out
 case' false =>
  by_cases hr:M.clock<M.aready
  ·have e0:Bst.stepAux ⟨M,n,l⟩=⟨M,n,l⟩:=by unfold Bst.stepAux;exact Q (Or.inr hr)
   rw[e0] at HZ;clear x;go_wp2;go_region_held3 (λw'=>w'.cell? ⟨F.g,68,none⟩=some (.bool false)/\w'.cell? ⟨F.g,74,none⟩=some (.int .i64 M.aready)/\w'.cell? ⟨F.g,72,none⟩=some (.int .i64 M.clock))
    ((go_keep;done))
    (fail)
   go_wp2;exact HZ.out _ _ ⟨U,U,U,U,U,U⟩ (H.out.kept (J W).drew)
  ·obtain⟨y,hy⟩:∃ y,y=C.step bY M.aux ⟨M,n,l⟩ M.rung:=⟨_,U⟩
   obtain⟨r,hM3⟩:∃ r:Mach,r={ y.s.M with aux:=y.c }:=⟨_,U⟩
   have e0:Bst.stepAux ⟨M,n,l⟩=⟨{ r with aready:=r.clock+5*y.n },y.s.n,y.s.l⟩:=by
    rw[hM3,hy];unfold Bst.stepAux;exact G (λe=>e.elim (λe=>by rw[x] at e;cases e) hr)
   rw[e0] at HZ;have HM3:=hid hM3;have hr':M.aready<=M.clock:=by omega
   have hfu:4<=bY.fuel ⟨M,n,l⟩:=by
    show 4<=1000000001-l.length;have:l.length<=1000000:=hl;omega
   have HD:=hid (λ(W:World) (Z:Nat) (h:KQ F N ob vl vs w ⟨M,n,l⟩ ln sm (oA F.g Z) W)=>zwK HK.out h hfu M.rung);rw[show C.step bY M.aux ⟨M,n,l⟩ M.rung=y from hy.symm] at HD;obtain⟨tg,htg⟩:∃ b,M.rung=b:=⟨_,U⟩
   rw[htg] at HD;have B:=hid htg;clear htg hy e0 hfu hM3 hr x hl;go_wp2;go_region_held3 (λw'=>w'.cell? ⟨F.g,68,none⟩=some (.bool false)/\w'.cell? ⟨F.g,74,none⟩=some (.int .i64 M.aready)/\w'.cell? ⟨F.g,72,none⟩=some (.int .i64 M.clock))
    ((go_keep;done))
    (fail)
   go_upto_region 17 with fail
   refine Pl.cutW (GV F N ob vl vs w ⟨M,n,l⟩ ln sm) (H.out.kept (J W).drew) ?_;intro Y hY;have HX:=hid (hY.kept (J Y).drew);have k:=HX.out.ssA B.out;have HZN:=hid (HX.out.nz HK.out);clear hY m72 m74 m68 mz mf hr' H;go_cut [11,12] (λp n1 W=>∃ b,p=.pointer (some ⟨b,0,none⟩)/\n1=.int .i64 y.n/\y.c.ok/\(0<=y.n/\y.n<=21)/\bY.fuel ⟨M,n,l⟩<=bY.fuel y.s+4/\KR F N ob vl vs w y.s ln sm y.c b W)
   case first =>
    refine mI (S:=λw'=>w'.rangeAt F.g 15 (bG M.aux)/\w'.cell? ⟨F.g,71,none⟩=some (.bool tg)) (st:=10) (by kernel_rfl) ?_;refine bI 0 (λ_=>k) ?_;refine bI 1 (λ_=>k) ?_;refine bI 2 (λ_=>k) ?_;refine bI 4 (λ_=>k) ?_;refine bI 6 (λ_=>k) ?_;refine bI 7 (λ_=>k) ?_;refine bI 8 (λ_=>k) ?_;refine nV [] 3 (.agg (bG M.aux).toArray) U (λw' X=>kt 25 _ U F.g 15 U (bG M.aux) _ X.1 underlying25 U lV) k ?_;refine j1 [] 9 (λ_ X=>X.2) k ?_;refine zdj (i:=5) (j:=14) (oi:=⟨some 185,_,_,_,_,none⟩) (oj:=⟨some 11,_,_,_,_,none⟩) (by kernel_rfl) U U (λK d=>?_) (λK d=>?_)
    ·skip
     obtain⟨Z,E⟩:∃ Z,Z=Y.drew.heap.size:=⟨_,U⟩
     have hnN:N<=Z:=by rw[E];exact HZN.out
     go_simp;go_at_call 74
     refine(zvi F.g _ Z E).mono ?_;rintro e w1 ⟨rfl,T,hxc⟩;have HQ:=hid (KQ.ofA hnN (HX.out.kept T) hxc);clear hxc E hnN;clear T;try go_wp2_with fail
     refine gL d (λ_=>HQ.out.c.ssA B.out) ?_;clear d K;clear k;have k:=HQ.out.c.ssA B.out;refine zdj (i:=10) (j:=14) (oi:=⟨some 190,_,_,_,_,none⟩) (oj:=⟨some 11,_,_,_,_,none⟩) (by kernel_rfl) U U (λK d=>?_) (λK d=>?_)
     ·skip
      go_simp;go_at_call 73
      refine(HD.out _ _ HQ.out).mono ?_;rintro e w2 ⟨rfl,t,o,m,q⟩;have u:=hid t;have I:=hid o;have R:=hid m;have HFL:=hid q;clear t o m q;try go_wp2_with fail
      refine gL d (λh=>by simp at h) ?_;clear d K;refine bI 11 (λh=>by simp at h) ?_;refine bI 12 (λh=>by simp at h) ?_;refine bI 13 (λh=>by simp at h) ?_;refine fP 14 (λK d=>?_);go_simp;refine gL d (λh=>by simp at h) ?_;clear d K;have HE:=aJ w2 (.cells #[.int .u16 0,.int .u16 0,.int .u16 0,.int .u16 0,.int .u16 0,.int .u16 0,.int .u16 0,.int .u16 0,.int .u16 0,.bool false,.bool false,.bool false,.bool false,.bool false,.bool false] 25);have HT:=sV (L:=zL) HE U;refine fP 15 (λK d=>?_);refine lW U 25 _ _ U (w2.heap.size) 0 (bG y.c).toArray U U HT lV (pF y.c) ?_;refine d.out _ _ (λh=>by simp at h) ?_;clear d K;refine bI 16 (λh=>by simp at h) ?_;refine lL (by kernel_rfl) ?_ _;refine(by assumption:∀(a':Act) (w':World),Met _ a' w'->_) _ _ ?_;go_meet;exact⟨_,U,U,I.out,R.out,HFL.out,KR.of (L:=zL) HK.out y.c U (u.out.c.kept (stA (J w2) _)) (ax (HQ.out.c.nz HK.out) u.out.z) HE⟩
     ·go_simp
      have HQ1:=hid (HQ.out.kept (stA (J w1) (.cells #[.int .u16 0,.int .u16 0,.int .u16 0,.int .u16 0,.int .u16 0,.int .u16 0,.int .u16 0,.int .u16 0,.int .u16 0,.bool false,.bool false,.bool false,.bool false,.bool false,.bool false] 25)));refine gL d (λ_=>HQ1.out.c.ssA B.out) ?_;clear d K;refine fP 10 (λK d=>?_);go_simp;go_at_call 73
      refine(HD.out _ _ HQ1.out).mono ?_;rintro e w2 ⟨rfl,t,o,m,q⟩;have u:=hid t;have I:=hid o;have R:=hid m;have HFL:=hid q;clear t o m q;try go_wp2_with fail
      refine gL d (λh=>by simp at h) ?_;clear d K;refine bI 11 (λh=>by simp at h) ?_;refine bI 12 (λh=>by simp at h) ?_;refine bI 13 (λh=>by simp at h) ?_;have HE:=u.out.p _ _ (HQ.out.c.nz HK.out) (aJ w1 (.cells #[.int .u16 0,.int .u16 0,.int .u16 0,.int .u16 0,.int .u16 0,.int .u16 0,.int .u16 0,.int .u16 0,.int .u16 0,.bool false,.bool false,.bool false,.bool false,.bool false,.bool false] 25));have HT:=sV (L:=zL) HE U;refine fP 15 (λK d=>?_);refine lW U 25 _ _ U (w1.heap.size) 0 (bG y.c).toArray U U HT lV (pF y.c) ?_;refine d.out _ _ (λh=>by simp at h) ?_;clear d K;refine bI 16 (λh=>by simp at h) ?_;refine lL (by kernel_rfl) ?_ _;refine(by assumption:∀(a':Act) (w':World),Met _ a' w'->_) _ _ ?_;go_meet;exact⟨_,U,U,I.out,R.out,HFL.out,KR.of (L:=zL) HK.out y.c U u.out.c (HQ.out.c.nz HK.out) HE⟩
    ·go_simp
     have HXA:=hid (HX.out.kept (stA (J Y.drew) (.cells #[.int .u16 0,.int .u16 0,.int .u16 0,.int .u16 0,.int .u16 0,.int .u16 0,.int .u16 0,.int .u16 0,.int .u16 0,.bool false,.bool false,.bool false,.bool false,.bool false,.bool false] 25)));refine gL d (λ_=>HXA.out.ssA B.out) ?_;clear d K;refine fP 5 (λK d=>?_);obtain⟨Z,E⟩:∃ Z,Z=(Y.drew.alloc (.cells #[.int .u16 0,.int .u16 0,.int .u16 0,.int .u16 0,.int .u16 0,.int .u16 0,.int .u16 0,.int .u16 0,.int .u16 0,.bool false,.bool false,.bool false,.bool false,.bool false,.bool false] 25)).heap.size:=⟨_,U⟩
     have hnN:N<=Z:=by rw[E];exact ax HZN.out (stA (J Y.drew) _).size
     go_simp;go_at_call 74
     refine(zvi F.g _ Z E).mono ?_;rintro e w1 ⟨rfl,T,hxc⟩;have HQ:=hid (KQ.ofA hnN (HXA.out.kept T) hxc);clear hxc E hnN;have HP:=hid ((T.block Y.drew.heap.size (by simp)).trans (aJ Y.drew (.cells #[.int .u16 0,.int .u16 0,.int .u16 0,.int .u16 0,.int .u16 0,.int .u16 0,.int .u16 0,.int .u16 0,.int .u16 0,.bool false,.bool false,.bool false,.bool false,.bool false,.bool false] 25)));clear T;try go_wp2_with fail
     refine gL d (λ_=>HQ.out.c.ssA B.out) ?_;clear d K;clear k;have k:=HQ.out.c.ssA B.out;refine fP 10 (λK d=>?_);go_simp;go_at_call 73
     refine(HD.out _ _ HQ.out).mono ?_;rintro e w2 ⟨rfl,t,o,m,q⟩;have u:=hid t;have I:=hid o;have R:=hid m;have HFL:=hid q;clear t o m q;try go_wp2_with fail
     refine gL d (λh=>by simp at h) ?_;clear d K;refine bI 11 (λh=>by simp at h) ?_;refine bI 12 (λh=>by simp at h) ?_;refine bI 13 (λh=>by simp at h) ?_;have HE:=u.out.p _ _ HZN.out HP.out;have HT:=sV (L:=zL) HE U;refine fP 15 (λK d=>?_);refine lW U 25 _ _ U (Y.drew.heap.size) 0 (bG y.c).toArray U U HT lV (pF y.c) ?_;refine d.out _ _ (λh=>by simp at h) ?_;clear d K;refine bI 16 (λh=>by simp at h) ?_;refine lL (by kernel_rfl) ?_ _;refine(by assumption:∀(a':Act) (w':World),Met _ a' w'->_) _ _ ?_;go_meet;exact⟨_,U,U,I.out,R.out,HFL.out,KR.of (L:=zL) HK.out y.c U u.out.c HZN.out HE⟩
   case rest =>
    obtain⟨b,rfl,rfl,hok,m,q,hR⟩:=hcut;have HR:=hid hR;have I:=hid hok;have R:=hid m;clear hR hok m q k HX HD;have hG:=HR.out.c.puts (M':={ y.s.M with aux:=y.c }) HK.out 15 (bG y.c) (by simp[bG]) (λtk=>F.putAux y.s.M tk y.c) ⟨U,U,U,U,U⟩ { HR.out.c.c.fit with main:=HR.out.c.c.fit.main,aux:=I.out };rw[<- HM3.out] at hG;have HG:=hid hG;clear hG;go_upto_region 19 with(first
     | (refine wpList_load_mid U 25 _ U b 0 U (bG y.c) _ HR.out.p.c underlying25 U lV ?_)
     | (refine wpList_store_mid U 25 _ _ U F.g 15 (bG y.c).toArray U U (HR.out.c.c.th 15 15 (by decide)) lV (pF y.c) ?_
        refine Pl.cutL (GV F N ob vl vs w ⟨r,y.s.n,y.s.l⟩ ln sm) HG.out ?_;intro V hV0;have HV0:=hid hV0;clear hV0))
    have hV:=HV0.out;clear HV0 HG HR;have m72:=hV.c.at 72 (.int .i64 r.clock) (by decide) U;have m74:=hV.c.at 74 (.int .i64 r.aready) (by decide) U;obtain⟨mz,mf⟩:=hV.c.gz;have hcl:0<=r.clock/\r.clock<=200000:=hV.c.fit.clock;have m:=R.out;have w1':IntKind.i64.wrap (5*y.n)=5*y.n:=by rw[aI];omega
    have w2':IntKind.i64.wrap (r.clock+5*y.n)=r.clock+5*y.n:=by rw[aI];omega
    have hfit:Mach.fit { r with aready:=r.clock+5*y.n }:={ hV.c.fit with main:=hV.c.fit.main,aready:=by show 0<=r.clock+5*y.n/\r.clock+5*y.n<=r.clock+20000;omega }
    have HV:=hid hV;have HFI:=hid hfit;clear hV hfit m hcl;go_wp2;exact HZ.out _ _ ⟨U,U,U,U,U,U⟩ (HV.out.puts (M':={ r with aready:=r.clock+5*y.n }) HK.out 74 [.int .i64 (r.clock+5*y.n)] (by simp) (λ_=>U) ⟨U,U,U,U,U⟩ HFI.out)
end
end Go.Proofs.YthghjlinhokimaaGreatDoor
