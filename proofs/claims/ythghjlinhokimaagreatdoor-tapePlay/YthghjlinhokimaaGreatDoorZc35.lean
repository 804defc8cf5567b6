/-
  Parts of a proof, joined.
-/
import Derived.Test.YthghjlinhokimaaGreatDoorZcA
import Derived.Test.YthghjlinhokimaaGreatDoorZc30
import Derived.Test.YthghjlinhokimaaGreatDoorZc31
import Derived.Test.YthghjlinhokimaaGreatDoorZc28
set_option linter.all false
set_option maxRecDepth 100000
set_option maxHeartbeats 6400000
namespace Go.Proofs.YthghjlinhokimaaGreatDoor
open Go.ChangeShapes Go.WideShapes Go.ChangeAt Go.RowKit Go.Proofs.Tryz
section
variable {F : Fx} {N c : Nat} {vco vln vsm vw : Value} {w w1 : World} {k : Cs} {X : Mach} {L1 L2 : List Value} {Y : World} {ac : Nat}
theorem zl7(a:Cs)(j:Nat):a.clocks (j+1)={ (a.clocks j).now with s:=⟨(a.clocks j).now.s.M.goOn,(a.clocks j).now.s.n,(a.clocks j).now.s.l⟩ }:=rfl
theorem zrT(b:Fb F N){q:Cs}{w2 a:World}{v:Value}(h:CI F N c vco vln vsm w2 q)(hB:Bd F a q.s.M.goOn ⟨q.s.n,q.s.l,v⟩)(d:Bt F w2 a):CI F N c vco vln vsm a { q with s:=⟨q.s.M.goOn,q.s.n,q.s.l⟩ } :=
 h.step (NM.of (s':=⟨q.s.M.goOn,q.s.n,q.s.l⟩) b h.i h.i.n hB d)
structure RR (w : World) (L1 L2 : List Value) (Y : World) : Prop where
 low:Below w.heap.size w Y
 b1:Bx Y (w.heap.size+1) L1
 b2:Bx Y (w.heap.size+2) L2
theorem RR.kept(h:RR w L1 L2 Y)(hb:Below Y.heap.size Y w1):RR w L1 L2 w1:=⟨bn h.low hb,h.b1.kept hb,h.b2.kept hb⟩
theorem RR.far{B:Nat}(h:RR w L1 L2 Y)(hB:w.heap.size+3<=B)(hb:Below B Y w1):RR w L1 L2 w1:=⟨h.low.trans (hb.mono (by omega)),h.b1.same hb.size (hb.block _ (by omega)),h.b2.same hb.size (hb.block _ (by omega))⟩
structure FW (F : Fx) (N : Nat) (k : Cs) (X : Mach) (vln vsm vw : Value) (w : World) (ac : Nat) (L1 L2 : List Value) (Y : World) : Prop extends RR w L1 L2 Y where
 o1:Bx Y ac (D X F.S)
 o2:Bx Y (ac+1) [vln,vsm,vw]
 told:Told F N k vln vsm vw Y
 dz:w.heap.size+3<=ac
 new:dY F.B F.S
 bz:w.heap.size+3<=F.B/\F.B<=N
theorem FW.s(h:FW F N k X vln vsm vw w ac L1 L2 Y):Y.rangeAt ac 0 (D X F.S)/\Y.rangeAt (ac+1) 0 [vln,vsm,vw]:=⟨h.o1.c,h.o2.c⟩
theorem FW.kept(h:FW F N k X vln vsm vw w ac L1 L2 Y)(hb:Below Y.heap.size Y w1):FW F N k X vln vsm vw w ac L1 L2 w1 :=
 ⟨h.toRR.kept hb,h.o1.kept hb,h.o2.kept hb,⟨h.told.sl.kept hb,h.told.fit,fF h.told.ln (λj e=>hb.block j (fZ h.told.ln j e).2.1),fF h.told.sm (λj e=>hb.block j (fZ h.told.sm j e).2.1),fF h.told.ws (λj e=>hb.block j (fZ h.told.ws j e).2.1)⟩,h.dz,h.new,h.bz⟩
theorem Told.far{b o:Nat}{vs:List Value}(h:Told F N k vln vsm vw Y)(a:dY F.B F.S)(hb:b<F.B)(c:F.B<=N):Told F N k vln vsm vw (Y.setCells b o vs) :=
 ⟨h.sl.off a hb o vs,h.fit,fF h.ln (λj e=>fO (by have:=(fZ h.ln j e).1;omega) _ _ _),fF h.sm (λj e=>fO (by have:=(fZ h.sm j e).1;omega) _ _ _),fF h.ws (λj e=>fO (by have:=(fZ h.ws j e).1;omega) _ _ _)⟩
theorem FW.put1(h:FW F N k X vln vsm vw w ac (D aE aM) L2 Y):FW F N k X vln vsm vw w ac (D X F.S) L2 (Y.setCells (w.heap.size+1) 0 (D X F.S)):=by
 obtain⟨b,z2⟩:=h.bz;have z3:=h.dz;have a:=h.b1.puts 0 (D X F.S) (by rw[cy,cy];omega);rw[jJ _ _ (by rw[cy,cy])] at a;exact⟨⟨j4 h.low (by omega) _ _,a,DW.bb h.b2 (by omega)⟩,DW.bb h.o1 (by omega),DW.bb h.o2 (by omega),h.told.far h.new (by omega) z2,h.dz,h.new,h.bz⟩
theorem FW.put2{x y z:Value}(h:FW F N k X vln vsm vw w ac L1 [x,y,z] Y):FW F N k X vln vsm vw w ac L1 [vln,vsm,vw] (Y.setCells (w.heap.size+2) 0 [vln,vsm,vw]):=by
 obtain⟨b,z2⟩:=h.bz;have z3:=h.dz;have a:=h.b2.puts 0 [vln,vsm,vw] (by simp);rw[jJ _ _ (by simp)] at a;exact⟨⟨j4 h.low (by omega) _ _,DW.bb h.b1 (by omega),a⟩,DW.bb h.o1 (by omega),DW.bb h.o2 (by omega),h.told.far h.new (by omega) z2,h.dz,h.new,h.bz⟩
structure EW (F : Fx) (N : Nat) (k : Cs) (X : Mach) (vln vsm vw : Value) (w : World) (ac : Nat) (L1 L2 : List Value) (Y : World) : Prop extends RR w L1 L2 Y where
 o1:Bx Y ac (D X F.S)
 o2:Bx Y (ac+1) L2
 old:∃ w2:World,w2.heap.size=ac/\Told F N k vln vsm vw w2/\Below w2.heap.size w2 Y
 dz:w.heap.size+3<=ac
theorem Told.kept(h:Told F N k vln vsm vw Y)(hb:Below Y.heap.size Y w1):Told F N k vln vsm vw w1:=⟨h.sl.kept hb,h.fit,fF h.ln (λj e=>hb.block j (fZ h.ln j e).2.1),fF h.sm (λj e=>hb.block j (fZ h.sm j e).2.1),fF h.ws (λj e=>hb.block j (fZ h.ws j e).2.1)⟩
theorem EW.mk'{w2:World}(a:RR w (D aE aM) [.slice none 0 0,.slice none 0 0,.slice none 0 0] w2)(d:Told F N k vln vsm vw w2):EW F N k X vln vsm vw w w2.heap.size (D aE aM) [.slice none 0 0,.slice none 0 0,.slice none 0 0] (((w2.alloc (.cells (D aE aM).toArray 41)).alloc (.cells #[.slice none 0 0,.slice none 0 0,.slice none 0 0] 47)).setCells w2.heap.size 0 (D X F.S)):=by
 have hb:Below w2.heap.size w2 (((w2.alloc (.cells (D aE aM).toArray 41)).alloc (.cells #[.slice none 0 0,.slice none 0 0,.slice none 0 0] 47)).setCells w2.heap.size 0 (D X F.S)):=Bl.puts (stA (stA (J w2) _) _) (ak _) _;have c:=((Bx.new w2 (D aE aM) 41 (b:=w2.heap.size) U).over (.cells #[.slice none 0 0,.slice none 0 0,.slice none 0 0] 47)).puts 0 (D X F.S) (by rw[cy,cy];omega);rw[jJ _ _ (by rw[cy,cy])] at c;have e:=a.b2.z;exact⟨a.kept hb,c,DW.bb (Bx.new (w2.alloc (.cells (D aE aM).toArray 41)) [.slice none 0 0,.slice none 0 0,.slice none 0 0] 47 (b:=w2.heap.size+1) (by simp)) (by omega),⟨w2,U,d,hb⟩,by omega⟩
theorem EW.fw(h:EW F N k X vln vsm vw w ac (D aE aM) [.slice none 0 0,.slice none 0 0,.slice none 0 0] Y)(c:dY F.B F.S)(d:w.heap.size+3<=F.B/\F.B<=N):FW F N k X vln vsm vw w ac (D aE aM) [.slice none 0 0,.slice none 0 0,.slice none 0 0] (Y.setCells (ac+1) 0 [vln,vsm,vw]):=by
 obtain⟨w2,rfl,e,hb⟩:=h.old;obtain⟨f,z2⟩:=d;have z3:=h.dz;have b:=h.o2.puts 0 [vln,vsm,vw] (by simp);rw[jJ _ _ (by simp)] at b;have a:Below w2.heap.size w2 (Y.setCells (w2.heap.size+1) 0 [vln,vsm,vw]):=j4 hb (by omega) _ _;exact⟨⟨j4 h.low (by omega) _ _,DW.bb h.b1 (by omega),DW.bb h.b2 (by omega)⟩,DW.bb h.o1 (by omega),b,e.kept a,h.dz,c,⟨f,z2⟩⟩
theorem zej(M:Mach)(S:Sl)(v:Value)(l:List Inp)(n:Nat)(w:World)(hs:bM w S M)(hsh:aZ w)(hin:bE w.heap.size w v l)(hd:∀ x∈l,0<=x.d/\x.d<=255)(hf:M.fit)(hf2:M.b.f<=20000)(hc:chkIn l M.clock=0)(hn:n<=20000/\M.clock+n<=200000):Calls prog 9 #[.agg (D M S).toArray,v,.int .i64 n] w λe w'=>∃(F:Fx) (N:Nat) (vln vsm vw:Value),e=.returned (.tuple #[.agg (D (Cs.clocks ⟨⟨M,0,[]⟩,l,[],[]⟩ n).s.M F.S).toArray,.agg #[vln,vsm,vw],.int .i64 0])/\Told F N (Cs.clocks ⟨⟨M,0,[]⟩,l,[],[]⟩ n) vln vsm vw w'/\w.heap.size<=F.B/\F.B<=N/\dY F.B F.S/\Below w.heap.size w w':=by
 obtain⟨a,hk0⟩:∃ a:Cs,a=⟨⟨M,0,[]⟩,l,[],[]⟩:=⟨_,U⟩
 rw[<- hk0];have HK0:=hid hk0;have hBm:=Bx.new w (D M S) 41 (b:=w.heap.size) U;have hW:Below w.heap.size w (((w.alloc (.cells (D M S).toArray 41)).alloc (.cells (D aE aM).toArray 41)).alloc (.cells #[.slice none 0 0,.slice none 0 0,.slice none 0 0] 47)):=stA (stA (stA (J w) _) _) _;have HRR:Hid (RR w (D aE aM) [.slice none 0 0,.slice none 0 0,.slice none 0 0] (((w.alloc (.cells (D M S).toArray 41)).alloc (.cells (D aE aM).toArray 41)).alloc (.cells #[.slice none 0 0,.slice none 0 0,.slice none 0 0] 47))) :=
  ⟨hW,(Bx.new (w.alloc (.cells (D M S).toArray 41)) (D aE aM) 41 (b:=w.heap.size+1) (by simp)).over _,Bx.new ((w.alloc (.cells (D M S).toArray 41)).alloc (.cells (D aE aM).toArray 41)) [.slice none 0 0,.slice none 0 0,.slice none 0 0] 47 (b:=w.heap.size+2) (by simp)⟩
 have HBM:=hid ((hBm.over (.cells (D aE aM).toArray 41)).over (.cells #[.slice none 0 0,.slice none 0 0,.slice none 0 0] 47));have HS:=hid (hs.kept hW);have HSH:=hid (rt hsh (hW.block _ (zeh hsh)));have HIN:=hid ((hin.kept hW).mono hW.size);have HD:=hid hd;have HF:=hid hf;have HF2:=hid hf2;have HC:=hid hc;have R:=hid hn;clear hs hsh hin hd hf hf2 hc hn hBm hW hk0;go_enter func9,ntmps9;go_wp2_with (first
  | (refine wpList_load_mid U 41 _ U w.heap.size 0 U (D M S) _ HBM.out.c underlying41 U bV ?_)
  | (go_at_call 31;refine(zpc M S v l n _ HS.out HSH.out HIN.out HD.out HF.out HF2.out HC.out ⟨by omega,by have:=R.out;omega,R.out.2⟩).mono ?_;rintro e w1 ⟨F,N,c,rfl,hF,hFB,hmr,hCI,hb1⟩;have m:=hid hF;have HFB:=hid hFB;have HMR:=hid hmr;have HCI:=hid hCI;have HR1:=hid (HRR.out.kept hb1);clear hF hFB hmr hCI hb1))
 have hci:=HCI.out;rw[<- HK0.out] at hci;have HCI0:=hid hci;have T:a.ln.length=0/\a.sm.length=0/\a.s.l.length=0/\a.s.M.clock=M.clock:=by rw[HK0.out];exact⟨U,U,U,U⟩
 have o:=hid T;have W:w.heap.size+3<=F.B:=by have:=HFB.out;simp at this;omega
 have HFB3:=hid W;clear hci T W HCI HBM HRR HFB HSH HIN HS;go_loopw [26] (λi wr=>∃(j:Nat) (vco vln vsm:Value),j<=n/\i=.int .i64 j/\CI F N c vco vln vsm wr (a.clocks j)/\RR w (D aE aM) [.slice none 0 0,.slice none 0 0,.slice none 0 0] wr) (λi _=>n-(intOf i).toNat)
 case atStart=>exact⟨0,v,_,_,aU _,U,HCI0.out,HR1.out⟩
 case round =>
  obtain⟨j,vco,vln,vsm,hj,rfl,hX,hR⟩:=hrel;have y:=hid hX;have HR:=hid hR;have hat:=zj1 m.out a (by have:=o.out.2.2.1;omega) j (by have:=R.out;omega);obtain⟨q1,q2,q3,q4⟩:=hat;rw[o.out.2.2.2] at q1;rw[o.out.1] at q2;rw[o.out.2.1] at q3;rw[o.out.2.2.1] at q4;have Q1:=hid q1;have Q2:Hid ((a.clocks j).ln.length<=100000):=hid (by have:=R.out;omega);have Q3:Hid ((a.clocks j).sm.length<=100000):=hid (by have:=R.out;omega);have Q4:Hid ((a.clocks j).s.l.length<=1000000):=hid (by have:=R.out;omega);obtain⟨k,hk⟩:∃ k,k=a.clocks j:=⟨_,U⟩
  have HK:=hid hk;rw[<- hk] at y Q1 Q2 Q3 Q4;clear hX hR q1 q2 q3 q4 hk HCI0 HR1;by_cases hlt:j<n
  ·as_aux_lemma =>
   have hjl:(j:Int)<n:=by omega
   have hck:k.now.s.M.clock<200000:=by rw[rA,Q1.out];have:=R.out;omega
   obtain⟨q,hq⟩:∃ q,q=k.now:=⟨_,U⟩
   have hno:=Lk.now m.out y.out Q2.out Q3.out Q4.out;rw[<- hq] at hck hno;have HNO:=hid hno;have HCK:=hid hck;have HQ:Hid (a.clocks (j+1)={ q with s:=⟨q.s.M.goOn,q.s.n,q.s.l⟩ }):=hid (by rw[zl7,hq,HK.out]);clear hno hck hq;go_wp2_with (first
    | (go_at_call 32;refine HNO.out.mono ?_;rintro e w2 ⟨rfl,u1,u2,u3,E,p⟩;have HX2:=hid E;have H:=hid (HR.out.far HFB3.out p);have m0:=E.cb.bx.at 0 _ U;have mz:=E.cb.z;clear E p))
   as_aux_lemma =>
    obtain⟨vv,g⟩:=HX2.out.i.bd;refine(Lk.goOn g HCK.out).mono ?_;rintro e w3 ⟨rfl,hB3,hT3⟩;have HX3:=hid (zrT m.out HX2.out hB3 hT3);have HR3:=hid (H.out.far HFB3.out (Mv.below hT3));clear g hB3 hT3;have hjs:(j:Int)<20000:=by have:=R.out;omega
    have hjp:0<=(j:Int):=by omega
    as_aux_lemma =>
     go_wp2;exact⟨⟨j+1,u1,u2,u3,by omega,by simp,by rw[HQ.out];exact HX3.out,HR3.out⟩,by simp[intOf];omega⟩
  ·as_aux_lemma =>
   have hjn:j=n:=by omega
   subst hjn;have hnl:¬ (j:Int)<j:=by omega
   obtain⟨X,hX⟩:∃ X,X=k.s.M:=⟨_,U⟩
   have hdn:=Lk.done m.out y.out;rw[<- hX] at hdn;have HDN:=hid hdn;have I:Hid (dY F.B F.S/\F.B<=N):=hid (by obtain⟨vv,g⟩:=y.out.i.bd;exact⟨g.slNew HMR.out,y.out.bigN m.out⟩);obtain⟨a2,r,c2,e2⟩:=mi y.out.ln;obtain⟨a3,t,c3,e3⟩:=mi y.out.sm;have HXE:=hid hX;clear hdn hX hlt;subst e2 e3;have HSI:Hid F.S.isSl:=hid (by obtain⟨vv,g⟩:=y.out.i.bd;exact g.isSl);go_upto_region 10 with(first
    | (go_at_call 34;refine HDN.out.mono ?_;rintro e w2 ⟨vw,rfl,hT2,p⟩;obtain⟨a4,u,c4,e4⟩:=mi hT2.ws;subst e4;have HT2:=hid hT2;have H:=hid (HR.out.far HFB3.out p);clear hT2 p)
    | (refine wpList_store_mid U 41 _ _ U w2.heap.size 0 (D X F.S).toArray U U (((Bx.new w2 (D aE aM) 41 (b:=w2.heap.size) U).over (.cells #[.slice none 0 0,.slice none 0 0,.slice none 0 0] 47)).there 0 75 (by rw[cy];omega)) bV (fG _ _ HSI.out) ?_
       refine Pl.cutL (EW F N k X (.slice a2 r c2) (.slice a3 t c3) (.slice a4 u c4) w w2.heap.size (D aE aM) [.slice none 0 0,.slice none 0 0,.slice none 0 0]) (EW.mk' H.out HT2.out) ?_;intro Z hZ;have HZ:=hid hZ;have y0:=hZ.o2.at 0 _ U;have y1:=hZ.o2.at 1 _ U;have y2:=hZ.o2.at 2 _ U;have yf:=hZ.o2.f;have yz:=hZ.o2.z;clear hZ))
   refine Pl.cutW (FW F N k X (.slice a2 r c2) (.slice a3 t c3) (.slice a4 u c4) w w2.heap.size (D aE aM) [.slice none 0 0,.slice none 0 0,.slice none 0 0]) (EW.fw HZ.out I.out.1 ⟨HFB3.out,I.out.2⟩) ?_;intro Y1 hY1;have HY:=hid (hY1.kept (J Y1).drew);obtain⟨ac,hD⟩:∃ ac,ac=w2.heap.size:=⟨_,U⟩
   clear hY1 HZ y0 y1 y2 yf yz H HT2 HR y HDN;refine wp_region_held_drew (S:=λw'=>w'.rangeAt w2.heap.size 0 (D X F.S)/\w'.rangeAt (w2.heap.size+1) 0 [.slice a2 r c2,.slice a3 t c3,.slice a4 u c4]) (by kernel_rfl) (HY.out.s) ?_;intro hS;refine iq 0 (.agg (D X F.S).toArray) U (λw' hSw=>kt 41 _ U w2.heap.size 0 U (D X F.S) _ hSw.1 underlying41 U bV) hS ?_;refine iq 1 (.agg ([.slice a2 r c2,.slice a3 t c3,.slice a4 u c4]).toArray) U (λw' hSw=>kt 47 _ U (w2.heap.size+1) 0 U ([.slice a2 r c2,.slice a3 t c3,.slice a4 u c4]) _ hSw.2 underlying47 U jK) hS ?_;have L:=hid HY.out.put1;refine pE (i:=2) (op:=⟨none,_,_,_,_,none⟩) (by kernel_rfl) U U 41 _ _ U (w.heap.size+1) 0 (D X F.S).toArray U U (HY.out.b1.there 0 75 (by rw[cy];omega)) bV (fG _ _ HSI.out) L.out.s ?_;have P:=hid L.out.put2;have hth:=L.out.b2.there 0 3 (by simp);have Y:(([.slice a2 r c2,.slice a3 t c3,.slice a4 u c4]:List Value)).toArray.all (·.oneCell')=true:=by simp[Value.oneCell']
   have hss:=P.out.s;clear hS;refine pE (i:=3) (op:=⟨none,_,_,_,_,none⟩) (by kernel_rfl) U U 47 _ _ U (w.heap.size+2) 0 #[.slice a2 r c2,.slice a3 t c3,.slice a4 u c4] U U hth jK Y hss ?_;have hS:=P.out.s;refine ee 4 ⟨some 8,_,_,_,_,none⟩ hS ?_;simp only[Act.put,xA,xB,xC];refine wpAnyH_done (by kernel_rfl) ?_ _;refine Pl.cutE (FW F N k X (.slice a2 r c2) (.slice a3 t c3) (.slice a4 u c4) w w2.heap.size (D X F.S) [.slice a2 r c2,.slice a3 t c3,.slice a4 u c4]) P.out ?_;intro V hV;have HV:=hid hV;clear hV HY L P hth Y hss hS;go_wp2;have hXk:=HXE.out;have hkk:=HK.out;refine ao (v:=.tuple #[.agg (D X F.S).toArray,.agg #[.slice a2 r c2,.slice a3 t c3,.slice a4 u c4],.int .i64 0]) ?_ U ⟨F,N,_,_,_,by rw[hXk,hkk],by have h:=HV.out.told;rw[hkk] at h;exact h,by have:=HFB3.out;omega,I.out.2,I.out.1,HV.out.low⟩;have l1:=run_loadVar_mid V (w.heap.size+1) 0 41 _ _ HV.out.b1.c underlying41 U bV;have l2:=run_loadVar_mid V (w.heap.size+2) 0 47 _ _ HV.out.b2.c underlying47 U jK
   simp only[results,results9];simp;show (Result.andThen (Sem.run prog (loadVar 41 ⟨w.heap.size+1,0,none⟩) V) _)=_;rw[l1];show (Result.andThen (Sem.run prog (loadVar 47 ⟨w.heap.size+2,0,none⟩) V) _)=_;rw[l2];rfl
end
section
variable {w : World} {L1 L2 : List Value} {Y : World}
theorem RR.zero1(h:RR w (D aE aM) L2 Y):RR w (D aE aM) L2 (Y.setCells (w.heap.size+1) 0 (D aE aM)):=by
 have a:=h.b1.puts 0 (D aE aM) (by omega);rw[jJ _ _ U] at a;exact⟨j4 h.low (by omega) _ _,a,DW.bb h.b2 (by omega)⟩
theorem RR.zero2(h:RR w L1 [.slice none 0 0,.slice none 0 0,.slice none 0 0] Y):RR w L1 [.slice none 0 0,.slice none 0 0,.slice none 0 0] (Y.setCells (w.heap.size+2) 0 [.slice none 0 0,.slice none 0 0,.slice none 0 0]):=by
 have a:=h.b2.puts 0 [.slice none 0 0,.slice none 0 0,.slice none 0 0] (by simp);rw[jJ _ _ U] at a;exact⟨j4 h.low (by omega) _ _,DW.bb h.b1 (by omega),a⟩
theorem pT:aM.isSl:=by
 intro j a;have hc:j=0 \/ j=1 \/ j=2 \/ j=3 \/ j=4:=by omega
 rcases hc with rfl|rfl|rfl|rfl|rfl <;> exact⟨none,0,0,U⟩
theorem zeE(M:Mach)(S:Sl)(v:Value)(l:List Inp)(n:Int)(w:World)(y:bM w S M)(z:∀ j,j<5->(M.byt j).length<=9223372036854775807)(d:M.ok)(f:bE w.heap.size w v l)(B:-9223372036854775808<=n/\n<=9223372036854775807)(E:bF M l n≠0):Calls prog 9 #[.agg (D M S).toArray,v,.int .i64 n] w λe w'=>e=.returned (.tuple #[.agg (D aE aM).toArray,.agg #[.slice none 0 0,.slice none 0 0,.slice none 0 0],.int .i64 (bF M l n)])/\Below w.heap.size w w':=by
 have g:=Bx.new w (D M S) 41 (b:=w.heap.size) U;have h:Below w.heap.size w (((w.alloc (.cells (D M S).toArray 41)).alloc (.cells (D aE aM).toArray 41)).alloc (.cells #[.slice none 0 0,.slice none 0 0,.slice none 0 0] 47)):=stA (stA (stA (J w) _) _) _;have p:Hid (RR w (D aE aM) [.slice none 0 0,.slice none 0 0,.slice none 0 0] (((w.alloc (.cells (D M S).toArray 41)).alloc (.cells (D aE aM).toArray 41)).alloc (.cells #[.slice none 0 0,.slice none 0 0,.slice none 0 0] 47))) :=
  ⟨h,(Bx.new (w.alloc (.cells (D M S).toArray 41)) (D aE aM) 41 (b:=w.heap.size+1) (by simp)).over _,Bx.new ((w.alloc (.cells (D M S).toArray 41)).alloc (.cells (D aE aM).toArray 41)) [.slice none 0 0,.slice none 0 0,.slice none 0 0] 47 (b:=w.heap.size+2) (by simp)⟩
 have q:=hid ((g.over (.cells (D aE aM).toArray 41)).over (.cells #[.slice none 0 0,.slice none 0 0,.slice none 0 0] 47));have I:=hid (y.kept h);have s:=hid ((f.kept h).mono h.size);have L:=hid z;have t:=hid d;have N:=hid B;obtain⟨r,i⟩:∃ r,r=bF M l n:=⟨_,U⟩
 have a:=zl4 M S v l n _ I.out L.out t.out s.out N.out E;rw[<- i] at E a ⊢;have u:=hid a;clear y z f d B g h a i;go_enter func9,ntmps9;go_wp2_with (first
  | (refine wpList_load_mid U 41 _ U w.heap.size 0 U (D M S) _ q.out.c underlying41 U bV ?_)
  | (go_at_call 31;refine u.out.mono ?_;rintro e w1 ⟨rfl,k⟩;have m:=hid (p.out.kept k);clear k)
  | (refine wpList_store_mid U 41 _ _ U (w.heap.size+1) 0 (D aE aM).toArray U U (m.out.b1.there 0 75 (by rw[cy];omega)) bV (fG _ _ pT) ?_
     refine Pl.cutL (RR w (D aE aM) [.slice none 0 0,.slice none 0 0,.slice none 0 0]) m.out.zero1 ?_;intro Z F;have o:=hid F;clear F)
  | (refine wpList_store_mid U 47 _ _ U (w.heap.size+2) 0 #[.slice none 0 0,.slice none 0 0,.slice none 0 0] U U (o.out.b2.there 0 3 (by simp)) jK (by simp[Value.oneCell']) ?_
     refine Pl.cutL (RR w (D aE aM) [.slice none 0 0,.slice none 0 0,.slice none 0 0]) o.out.zero2 ?_;intro V H;have x:=hid H;clear H))
 refine ao (v:=.tuple #[.agg (D aE aM).toArray,.agg #[.slice none 0 0,.slice none 0 0,.slice none 0 0],.int .i64 r]) ?_ U ⟨U,x.out.low⟩;have l1:=run_loadVar_mid V (w.heap.size+1) 0 41 _ _ x.out.b1.c underlying41 U bV;have l2:=run_loadVar_mid V (w.heap.size+2) 0 47 _ _ x.out.b2.c underlying47 U jK;simp only[results,results9];simp;show (Result.andThen (Sem.run prog (loadVar 41 ⟨w.heap.size+1,0,none⟩) V) _)=_;rw[l1];show (Result.andThen (Sem.run prog (loadVar 47 ⟨w.heap.size+2,0,none⟩) V) _)=_;rw[l2];rfl
end
theorem qy{w:World}{B z n:Nat}{t:TypeId}{v:Value}{xs:List Value}(h:w.ownsRow B t z v n xs):∃ a c,v=.slice a n c:=by
 rcases h.2 with⟨b,e1⟩|⟨g,d,e,b,_⟩
 ·exact⟨none,0,by rw[b,e1]⟩
 ·exact⟨_,_,b⟩
theorem jL{W:World}{S:Sl}{M:Mach}(h:bM W S M):S.isSl:=λj b=>by
 obtain⟨a,c,e⟩:=oJ (h j b);exact⟨_,_,_,e⟩
abbrev nil3:List Value:=[.slice none 0 0,.slice none 0 0,.slice none 0 0]
section
variable {w1 Y Y' : World} {X : Mach} {S' : Sl} {L : List Value}
end
theorem jO(a1 a2 a3:Option Addr)(a b c c1 c2 c3:Nat):(#[.slice a1 a c1,.slice a2 b c2,.slice a3 c c3]:Array Value).all (·.oneCell')=true:=by simp[Value.oneCell']
theorem Lk.rcheck(l:List Inp)(v:Value)(B:Nat)(a:Int)(w:World)(h:bE B w v l)(hB:B<=w.heap.size):Calls prog 21 #[v,.int .i64 a] w λe w'=>e=.returned (.int .i64 (chkIn l a))/\Below w.heap.size w w':=by
 obtain⟨a1,k1,e1⟩:=h.len;subst e1;by_cases E:40<l.length
 ·have t:(40:Int)<l.length:=by omega
  have n:chkIn l a=2:=Q E;rw[n];clear h n;go_enter func21,ntmps21;go_wp2;go_ret;exact⟨U,J w⟩
 ·have t:¬ (40:Int)<l.length:=by omega
  have n:chkIn l a=chkL l a:=G E;rw[n];have H:=hid h;clear h n;go_enter func21,ntmps21;go_wp2;go_loopw [14,5] (λi N wr=>∃(j:Nat) (d:Int),j<=l.length/\i=.int .i64 j/\N=.int .i64 d/\chkL (l.drop j) d=chkL l a/\Below w.heap.size w wr) (λi _ _=>l.length-(intOf i).toNat)
  case atStart=>exact⟨0,a,aU _,U,U,U,J w⟩
  case round =>
   obtain⟨j,d,hj,rfl,rfl,u,hb⟩:=hrel;have f:=hid u;have m:=hid hb;by_cases b:j<l.length
   ·obtain⟨x,s⟩:∃ x,l[j]?=some x:=⟨_,au b⟩
    have F:l.drop j=x::l.drop (j+1):=by
     rw[cf b];congr 1;rw[au b] at s;exact aH s
    have I:=(H.out.kept (hb.mono hB))
    obtain⟨g,o,k,P,gz,x0,x1,x2⟩:=I.at' s;cases P;have R:(j:Int)<l.length:=by omega
    have T:(0:Int)<=j:=by omega
    have q:=hid F;clear u hb F s I;by_cases q1:x.c<d
    ·go_wp2
     go_ret;exact⟨by rw[<- f.out,q.out,chk3 (Or.inl q1)];rfl,stA m.out _⟩
    ·have V:d<=x.c:=by omega
     by_cases L:400000<x.c
     ·go_wp2
      go_ret;exact⟨by rw[<- f.out,q.out,chk3 (Or.inr L)];rfl,stA m.out _⟩
     ·have W:x.c<=400000:=by omega
      have y:Hid (¬ (x.c<d \/ 400000<x.c)):=λe=>e.elim (λe=>by omega) (λe=>by omega)
      clear q1 L;by_cases M:x.p<0
      ·have r:Hid (¬ (x.p=0 \/ x.p=1)):=λe=>e.elim (λe=>by omega) (λe=>by omega)
       go_wp2;go_ret;exact⟨by rw[<- f.out,q.out,chk5 y.out r.out];rfl,stA m.out _⟩
      ·have X:0<=x.p:=by omega
       by_cases Y:1<x.p
       ·have r:Hid (¬ (x.p=0 \/ x.p=1)):=λe=>e.elim (λe=>by omega) (λe=>by omega)
        clear M;go_wp2;go_ret;exact⟨by rw[<- f.out,q.out,chk5 y.out r.out];rfl,stA m.out _⟩
       ·have Z:x.p<=1:=by omega
        have r:Hid (x.p=0 \/ x.p=1):=hid (by omega);clear M Y;go_wp2;exact⟨⟨j+1,x.c,by omega,by simp,U,by rw[<- f.out,q.out,chk0 y.out r.out],stA m.out _⟩,by simp[intOf];omega⟩
   ·have z:j=l.length:=by omega
    subst z;have hnl:¬ (l.length:Int)<l.length:=by omega
    clear u hb;go_wp2;go_ret;refine⟨?_,m.out⟩;have:=f.out;rw[di] at this;rw[<- this];rfl
/-! ### inputs that are right -/
theorem qB{l:List Inp}{a:Int}(h:chkIn l a=0):l.length<=40/\chkL l a=0:=by
 unfold chkIn at h;split at h
 ·cases h
 ·exact⟨by omega,h⟩
def rest(l:List Inp)(c:Int)(j:Nat):List Inp:=(l.take j).filter (λx=>decide (c<=x.c))
/-! ### what lies where -/
/-! ### a frame over one letter -/
end Go.Proofs.YthghjlinhokimaaGreatDoor
