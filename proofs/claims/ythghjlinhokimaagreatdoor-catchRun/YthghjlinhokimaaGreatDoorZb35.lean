/-
  Parts of a proof, joined.
-/
import Derived.Test.YthghjlinhokimaaGreatDoorZbA
import Derived.Test.YthghjlinhokimaaGreatDoorZb30
import Derived.Test.YthghjlinhokimaaGreatDoorZb31
import Derived.Test.YthghjlinhokimaaGreatDoorZb28
set_option linter.all false
set_option maxRecDepth 100000
set_option maxHeartbeats 6400000
open Option renaming none->G
open Go renaming World->u,Value->π
open Go.Act renaming put->ag
open Go.Result renaming andThen->aE
open Go.Value renaming oneCell'->bi,int->J,slice->κ,agg->ac
open Go.IntKind renaming i64->Q
open Go.Obj renaming cells->χ
namespace Go.Proofs.YthghjlinhokimaaGreatDoor
open Go.ChangeShapes Go.WideShapes Go.ChangeAt Go.RowKit Go.Proofs.Tryz
section
variable {F : Fx} {N c : Nat} {vco vln vsm vw : π} {w w1 : u} {k : Cs} {X : Mach} {L1 L2 : List π} {ι : u} {γ : Nat}
theorem zog(k0:Cs)(j:Nat):k0.clocks (j+1)={ (k0.clocks j).now with s:=⟨(k0.clocks j).now.s.M.goOn,(k0.clocks j).now.s.n,(k0.clocks j).now.s.l⟩ }:=rfl
theorem zuv(b:Fb F N){q:Cs}{w2 a:u}{v:π}(h:CI F N c vco vln vsm w2 q)(hB:Bd F a q.s.M.goOn ⟨q.s.n,q.s.l,v⟩)(d:Bt F w2 a):CI F N c vco vln vsm a { q with s:=⟨q.s.M.goOn,q.s.n,q.s.l⟩ } :=
 h.step (NM.of (s':=⟨q.s.M.goOn,q.s.n,q.s.l⟩) b h.i h.i.n hB d)
structure RR (w : u) (L1 L2 : List π) (ι : u) : Prop where
 low:Below w.heap.size w ι
 b1:Bx ι (w.heap.size+1) L1
 b2:Bx ι (w.heap.size+2) L2
theorem RR.kept(h:RR w L1 L2 ι)(hb:Below ι.heap.size ι w1):RR w L1 L2 w1:=⟨bw h.low hb,h.b1.kept hb,h.b2.kept hb⟩
theorem RR.far{B:Nat}(h:RR w L1 L2 ι)(hB:w.heap.size+3<=B)(hb:Below B ι w1):RR w L1 L2 w1:=⟨h.low.trans (hb.mono (by omega)),h.b1.same hb.size (hb.block _ (by omega)),h.b2.same hb.size (hb.block _ (by omega))⟩
structure FW (F : Fx) (N : Nat) (k : Cs) (X : Mach) (vln vsm vw : π) (w : u) (γ : Nat) (L1 L2 : List π) (ι : u) : Prop extends RR w L1 L2 ι where
 o1:Bx ι γ (υ X F.S)
 o2:Bx ι (γ+1) [vln,vsm,vw]
 told:Told F N k vln vsm vw ι
 dz:w.heap.size+3<=γ
 new:gA F.B F.S
 bz:w.heap.size+3<=F.B/\F.B<=N
theorem FW.s(h:FW F N k X vln vsm vw w γ L1 L2 ι):ι.rangeAt γ 0 (υ X F.S)/\ι.rangeAt (γ+1) 0 [vln,vsm,vw]:=⟨h.o1.c,h.o2.c⟩
theorem FW.kept(h:FW F N k X vln vsm vw w γ L1 L2 ι)(hb:Below ι.heap.size ι w1):FW F N k X vln vsm vw w γ L1 L2 w1 :=
 ⟨h.toRR.kept hb,h.o1.kept hb,h.o2.kept hb,⟨h.told.sl.kept hb,h.told.fit,jr h.told.ln (λj e=>hb.block j (jE h.told.ln j e).2.1),jr h.told.sm (λj e=>hb.block j (jE h.told.sm j e).2.1),jr h.told.ws (λj e=>hb.block j (jE h.told.ws j e).2.1)⟩,h.dz,h.new,h.bz⟩
theorem Told.far{b o:Nat}{vs:List π}(h:Told F N k vln vsm vw ι)(a:gA F.B F.S)(hb:b<F.B)(c:F.B<=N):Told F N k vln vsm vw (ι.setCells b o vs) :=
 ⟨h.sl.off a hb o vs,h.fit,jr h.ln (λj e=>ji (by have:=(jE h.ln j e).1;omega) _ _ _),jr h.sm (λj e=>ji (by have:=(jE h.sm j e).1;omega) _ _ _),jr h.ws (λj e=>ji (by have:=(jE h.ws j e).1;omega) _ _ _)⟩
theorem FW.put1(h:FW F N k X vln vsm vw w γ (υ aD aP) L2 ι):FW F N k X vln vsm vw w γ (υ X F.S) L2 (ι.setCells (w.heap.size+1) 0 (υ X F.S)):=by
 obtain⟨b,z2⟩:=h.bz;have z3:=h.dz;have a:=h.b1.puts 0 (υ X F.S) (by rw[dG,dG];omega);rw[mK _ _ (by rw[dG,dG])] at a;exact⟨⟨ni h.low (by omega) _ _,a,DW.bb h.b2 (by omega)⟩,DW.bb h.o1 (by omega),DW.bb h.o2 (by omega),h.told.far h.new (by omega) z2,h.dz,h.new,h.bz⟩
theorem FW.put2{x y z:π}(h:FW F N k X vln vsm vw w γ L1 [x,y,z] ι):FW F N k X vln vsm vw w γ L1 [vln,vsm,vw] (ι.setCells (w.heap.size+2) 0 [vln,vsm,vw]):=by
 obtain⟨b,z2⟩:=h.bz;have z3:=h.dz;have a:=h.b2.puts 0 [vln,vsm,vw] (by simp);rw[mK _ _ (by simp)] at a;exact⟨⟨ni h.low (by omega) _ _,DW.bb h.b1 (by omega),a⟩,DW.bb h.o1 (by omega),DW.bb h.o2 (by omega),h.told.far h.new (by omega) z2,h.dz,h.new,h.bz⟩
structure EW (F : Fx) (N : Nat) (k : Cs) (X : Mach) (vln vsm vw : π) (w : u) (γ : Nat) (L1 L2 : List π) (ι : u) : Prop extends RR w L1 L2 ι where
 o1:Bx ι γ (υ X F.S)
 o2:Bx ι (γ+1) L2
 old:∃ w2:u,w2.heap.size=γ/\Told F N k vln vsm vw w2/\Below w2.heap.size w2 ι
 dz:w.heap.size+3<=γ
theorem Told.kept(h:Told F N k vln vsm vw ι)(hb:Below ι.heap.size ι w1):Told F N k vln vsm vw w1:=⟨h.sl.kept hb,h.fit,jr h.ln (λj e=>hb.block j (jE h.ln j e).2.1),jr h.sm (λj e=>hb.block j (jE h.sm j e).2.1),jr h.ws (λj e=>hb.block j (jE h.ws j e).2.1)⟩
theorem EW.mk'{w2:u}(a:RR w (υ aD aP) [κ G 0 0,κ G 0 0,κ G 0 0] w2)(d:Told F N k vln vsm vw w2):EW F N k X vln vsm vw w w2.heap.size (υ aD aP) [κ G 0 0,κ G 0 0,κ G 0 0] (((w2.alloc (χ (υ aD aP).toArray 41)).alloc (χ #[κ G 0 0,κ G 0 0,κ G 0 0] 47)).setCells w2.heap.size 0 (υ X F.S)):=by
 have hb:Below w2.heap.size w2 (((w2.alloc (χ (υ aD aP).toArray 41)).alloc (χ #[κ G 0 0,κ G 0 0,κ G 0 0] 47)).setCells w2.heap.size 0 (υ X F.S)):=Bl.puts (stA (stA (aR w2) _) _) (ψ _) _;have c:=((Bx.new w2 (υ aD aP) 41 (b:=w2.heap.size) D).over (χ #[κ G 0 0,κ G 0 0,κ G 0 0] 47)).puts 0 (υ X F.S) (by rw[dG,dG];omega);rw[mK _ _ (by rw[dG,dG])] at c;have e:=a.b2.z;exact⟨a.kept hb,c,DW.bb (Bx.new (w2.alloc (χ (υ aD aP).toArray 41)) [κ G 0 0,κ G 0 0,κ G 0 0] 47 (b:=w2.heap.size+1) (by simp)) (by omega),⟨w2,D,d,hb⟩,by omega⟩
theorem EW.fw(h:EW F N k X vln vsm vw w γ (υ aD aP) [κ G 0 0,κ G 0 0,κ G 0 0] ι)(c:gA F.B F.S)(d:w.heap.size+3<=F.B/\F.B<=N):FW F N k X vln vsm vw w γ (υ aD aP) [κ G 0 0,κ G 0 0,κ G 0 0] (ι.setCells (γ+1) 0 [vln,vsm,vw]):=by
 obtain⟨w2,rfl,e,hb⟩:=h.old;obtain⟨f,z2⟩:=d;have z3:=h.dz;have b:=h.o2.puts 0 [vln,vsm,vw] (by simp);rw[mK _ _ (by simp)] at b;have a:Below w2.heap.size w2 (ι.setCells (w2.heap.size+1) 0 [vln,vsm,vw]):=ni hb (by omega) _ _;exact⟨⟨ni h.low (by omega) _ _,DW.bb h.b1 (by omega),DW.bb h.b2 (by omega)⟩,DW.bb h.o1 (by omega),b,e.kept a,h.dz,c,⟨f,z2⟩⟩
theorem AV(M:Mach)(S:Sl)(v:π)(l:List Inp)(n:Nat)(w:u)(hs:cf w S M)(hsh:br w)(hin:bP w.heap.size w v l)(hd:∀ x∈l,0<=x.d/\x.d<=255)(hf:M.fit)(hf2:M.b.f<=20000)(hc:chkIn l M.clock=0)(hn:n<=20000/\M.clock+n<=200000):Calls prog 9 #[ac (υ M S).toArray,v,J Q n] w λe w'=>∃(F:Fx) (N:Nat) (vln vsm vw:π),e=.returned (.tuple #[ac (υ (Cs.clocks ⟨⟨M,0,[]⟩,l,[],[]⟩ n).s.M F.S).toArray,ac #[vln,vsm,vw],J Q 0])/\Told F N (Cs.clocks ⟨⟨M,0,[]⟩,l,[],[]⟩ n) vln vsm vw w'/\w.heap.size<=F.B/\F.B<=N/\gA F.B F.S/\Below w.heap.size w w':=by
 obtain⟨k0,hk0⟩:∃ k0:Cs,k0=⟨⟨M,0,[]⟩,l,[],[]⟩:=⟨_,D⟩
 rw[<- hk0];have HK0:=hid hk0;have hBm:=Bx.new w (υ M S) 41 (b:=w.heap.size) D;have hW:Below w.heap.size w (((w.alloc (χ (υ M S).toArray 41)).alloc (χ (υ aD aP).toArray 41)).alloc (χ #[κ G 0 0,κ G 0 0,κ G 0 0] 47)):=stA (stA (stA (aR w) _) _) _;have HRR:Hid (RR w (υ aD aP) [κ G 0 0,κ G 0 0,κ G 0 0] (((w.alloc (χ (υ M S).toArray 41)).alloc (χ (υ aD aP).toArray 41)).alloc (χ #[κ G 0 0,κ G 0 0,κ G 0 0] 47))) :=
  ⟨hW,(Bx.new (w.alloc (χ (υ M S).toArray 41)) (υ aD aP) 41 (b:=w.heap.size+1) (by simp)).over _,Bx.new ((w.alloc (χ (υ M S).toArray 41)).alloc (χ (υ aD aP).toArray 41)) [κ G 0 0,κ G 0 0,κ G 0 0] 47 (b:=w.heap.size+2) (by simp)⟩
 have HBM:=hid ((hBm.over (χ (υ aD aP).toArray 41)).over (χ #[κ G 0 0,κ G 0 0,κ G 0 0] 47));have HS:=hid (hs.kept hW);have HSH:=hid (xj hsh (hW.block _ (AT hsh)));have HIN:=hid ((hin.kept hW).mono hW.size);have HD:=hid hd;have HF:=hid hf;have HF2:=hid hf2;have HC:=hid hc;have R:=hid hn;clear hs hsh hin hd hf hf2 hc hn hBm hW hk0;go_enter func9,ntmps9;go_wp2_with (first
  | (refine wpList_load_mid D 41 _ D w.heap.size 0 D (υ M S) _ HBM.out.c underlying41 D cn ?_)
  | (go_at_call 31;refine(ziA M S v l n _ HS.out HSH.out HIN.out HD.out HF.out HF2.out HC.out ⟨by omega,by have:=R.out;omega,R.out.2⟩).mono ?_;rintro e w1 ⟨F,N,c,rfl,hF,hFB,hmr,hCI,hb1⟩;have g:=hid hF;have HFB:=hid hFB;have HMR:=hid hmr;have HCI:=hid hCI;have HR1:=hid (HRR.out.kept hb1);clear hF hFB hmr hCI hb1))
 have hci:=HCI.out;rw[<- HK0.out] at hci;have HCI0:=hid hci;have T:k0.ln.length=0/\k0.sm.length=0/\k0.s.l.length=0/\k0.s.M.clock=M.clock:=by rw[HK0.out];exact⟨D,D,D,D⟩
 have m:=hid T;have U:w.heap.size+3<=F.B:=by have:=HFB.out;simp at this;omega
 have HFB3:=hid U;clear hci T U HCI HBM HRR HFB HSH HIN HS;go_loopw [26] (λi wr=>∃(j:Nat) (vco vln vsm:π),j<=n/\i=J Q j/\CI F N c vco vln vsm wr (k0.clocks j)/\RR w (υ aD aP) [κ G 0 0,κ G 0 0,κ G 0 0] wr) (λi _=>n-(intOf i).toNat)
 case atStart=>exact⟨0,v,_,_,bh _,D,HCI0.out,HR1.out⟩
 case round =>
  obtain⟨j,vco,vln,vsm,hj,rfl,hX,hR⟩:=hrel;have y:=hid hX;have HR:=hid hR;have hat:=zgv g.out k0 (by have:=m.out.2.2.1;omega) j (by have:=R.out;omega);obtain⟨q1,q2,q3,q4⟩:=hat;rw[m.out.2.2.2] at q1;rw[m.out.1] at q2;rw[m.out.2.1] at q3;rw[m.out.2.2.1] at q4;have Q1:=hid q1;have Q2:Hid ((k0.clocks j).ln.length<=100000):=hid (by have:=R.out;omega);have Q3:Hid ((k0.clocks j).sm.length<=100000):=hid (by have:=R.out;omega);have Q4:Hid ((k0.clocks j).s.l.length<=1000000):=hid (by have:=R.out;omega);obtain⟨k,hk⟩:∃ k,k=k0.clocks j:=⟨_,D⟩
  have HK:=hid hk;rw[<- hk] at y Q1 Q2 Q3 Q4;clear hX hR q1 q2 q3 q4 hk HCI0 HR1;by_cases hlt:j<n
  ·as_aux_lemma =>
   have hjl:(j:Int)<n:=by omega
   have hck:k.now.s.M.clock<200000:=by rw[sZ,Q1.out];have:=R.out;omega
   obtain⟨q,hq⟩:∃ q,q=k.now:=⟨_,D⟩
   have hno:=Lk.now g.out y.out Q2.out Q3.out Q4.out;rw[<- hq] at hck hno;have HNO:=hid hno;have HCK:=hid hck;have HQ:Hid (k0.clocks (j+1)={ q with s:=⟨q.s.M.goOn,q.s.n,q.s.l⟩ }):=hid (by rw[zog,hq,HK.out]);clear hno hck hq;go_wp2_with (first
    | (go_at_call 32;refine HNO.out.mono ?_;rintro e w2 ⟨rfl,u1,u2,u3,E,o⟩;have HX2:=hid E;have H:=hid (HR.out.far HFB3.out o);have m0:=E.cb.bx.at 0 _ D;have mz:=E.cb.z;clear E o))
   as_aux_lemma =>
    obtain⟨vv,a⟩:=HX2.out.i.bd;refine(Lk.goOn a HCK.out).mono ?_;rintro e w3 ⟨rfl,hB3,hT3⟩;have HX3:=hid (zuv g.out HX2.out hB3 hT3);have HR3:=hid (H.out.far HFB3.out (Mv.below hT3));clear a hB3 hT3;have hjs:(j:Int)<20000:=by have:=R.out;omega
    have hjp:0<=(j:Int):=by omega
    as_aux_lemma =>
     go_wp2;exact⟨⟨j+1,u1,u2,u3,by omega,by simp,by rw[HQ.out];exact HX3.out,HR3.out⟩,by simp[intOf];omega⟩
  ·as_aux_lemma =>
   have hjn:j=n:=by omega
   subst hjn;have hnl:¬ (j:Int)<j:=by omega
   obtain⟨X,hX⟩:∃ X,X=k.s.M:=⟨_,D⟩
   have hdn:=Lk.done g.out y.out;rw[<- hX] at hdn;have HDN:=hid hdn;have I:Hid (gA F.B F.S/\F.B<=N):=hid (by obtain⟨vv,a⟩:=y.out.i.bd;exact⟨a.slNew HMR.out,y.out.bigN g.out⟩);obtain⟨a2,p,c2,e2⟩:=ol y.out.ln;obtain⟨a3,r,c3,e3⟩:=ol y.out.sm;have HXE:=hid hX;clear hdn hX hlt;subst e2 e3;have HSI:Hid F.S.isSl:=hid (by obtain⟨vv,a⟩:=y.out.i.bd;exact a.isSl);go_upto_region 10 with(first
    | (go_at_call 34;refine HDN.out.mono ?_;rintro e w2 ⟨vw,rfl,hT2,o⟩;obtain⟨a4,t,c4,e4⟩:=ol hT2.ws;subst e4;have HT2:=hid hT2;have H:=hid (HR.out.far HFB3.out o);clear hT2 o)
    | (refine wpList_store_mid D 41 _ _ D w2.heap.size 0 (υ X F.S).toArray D D (((Bx.new w2 (υ aD aP) 41 (b:=w2.heap.size) D).over (χ #[κ G 0 0,κ G 0 0,κ G 0 0] 47)).there 0 75 (by rw[dG];omega)) cn (iq _ _ HSI.out) ?_
       refine Pl.cutL (EW F N k X (κ a2 p c2) (κ a3 r c3) (κ a4 t c4) w w2.heap.size (υ aD aP) [κ G 0 0,κ G 0 0,κ G 0 0]) (EW.mk' H.out HT2.out) ?_;intro Z hZ;have HZ:=hid hZ;have y0:=hZ.o2.at 0 _ D;have y1:=hZ.o2.at 1 _ D;have y2:=hZ.o2.at 2 _ D;have yf:=hZ.o2.f;have yz:=hZ.o2.z;clear hZ))
   refine Pl.cutW (FW F N k X (κ a2 p c2) (κ a3 r c3) (κ a4 t c4) w w2.heap.size (υ aD aP) [κ G 0 0,κ G 0 0,κ G 0 0]) (EW.fw HZ.out I.out.1 ⟨HFB3.out,I.out.2⟩) ?_;intro Y1 hY1;have HY:=hid (hY1.kept (aR Y1).drew);obtain⟨γ,hD⟩:∃ γ,γ=w2.heap.size:=⟨_,D⟩
   clear hY1 HZ y0 y1 y2 yf yz H HT2 HR y HDN;refine wp_region_held_drew (S:=λw'=>w'.rangeAt w2.heap.size 0 (υ X F.S)/\w'.rangeAt (w2.heap.size+1) 0 [κ a2 p c2,κ a3 r c3,κ a4 t c4]) (by kernel_rfl) (HY.out.s) ?_;intro hS;refine jW 0 (ac (υ X F.S).toArray) D (λw' hSw=>ml 41 _ D w2.heap.size 0 D (υ X F.S) _ hSw.1 underlying41 D cn) hS ?_;refine jW 1 (ac ([κ a2 p c2,κ a3 r c3,κ a4 t c4]).toArray) D (λw' hSw=>ml 47 _ D (w2.heap.size+1) 0 D ([κ a2 p c2,κ a3 r c3,κ a4 t c4]) _ hSw.2 underlying47 D kX) hS ?_;have L:=hid HY.out.put1;refine tK (i:=2) (op:=⟨G,_,_,_,_,G⟩) (by kernel_rfl) D D 41 _ _ D (w.heap.size+1) 0 (υ X F.S).toArray D D (HY.out.b1.there 0 75 (by rw[dG];omega)) cn (iq _ _ HSI.out) L.out.s ?_;have P:=hid L.out.put2;have hth:=L.out.b2.there 0 3 (by simp);have W:(([κ a2 p c2,κ a3 r c3,κ a4 t c4]:List π)).toArray.all (·.oneCell')=true:=by simp[bi]
   have hss:=P.out.s;clear hS;refine tK (i:=3) (op:=⟨G,_,_,_,_,G⟩) (by kernel_rfl) D D 47 _ _ D (w.heap.size+2) 0 #[κ a2 p c2,κ a3 r c3,κ a4 t c4] D D hth kX W hss ?_;have hS:=P.out.s;refine dy 4 ⟨some 8,_,_,_,_,G⟩ hS ?_;simp only[ag,xA,xB,xC];refine wpAnyH_done (by kernel_rfl) ?_ _;refine Pl.cutE (FW F N k X (κ a2 p c2) (κ a3 r c3) (κ a4 t c4) w w2.heap.size (υ X F.S) [κ a2 p c2,κ a3 r c3,κ a4 t c4]) P.out ?_;intro V hV;have HV:=hid hV;clear hV HY L P hth W hss hS;go_wp2;have hXk:=HXE.out;have hkk:=HK.out;refine Ξ (v:=.tuple #[ac (υ X F.S).toArray,ac #[κ a2 p c2,κ a3 r c3,κ a4 t c4],J Q 0]) ?_ D ⟨F,N,_,_,_,by rw[hXk,hkk],by have h:=HV.out.told;rw[hkk] at h;exact h,by have:=HFB3.out;omega,I.out.2,I.out.1,HV.out.low⟩;have l1:=run_loadVar_mid V (w.heap.size+1) 0 41 _ _ HV.out.b1.c underlying41 D cn;have l2:=run_loadVar_mid V (w.heap.size+2) 0 47 _ _ HV.out.b2.c underlying47 D kX;simp only[results,results9]
   simp;show (aE (Sem.run prog (loadVar 41 ⟨w.heap.size+1,0,G⟩) V) _)=_;rw[l1];show (aE (Sem.run prog (loadVar 47 ⟨w.heap.size+2,0,G⟩) V) _)=_;rw[l2];rfl
end
section
variable {w : u} {L1 L2 : List π} {ι : u}
theorem RR.zero1(h:RR w (υ aD aP) L2 ι):RR w (υ aD aP) L2 (ι.setCells (w.heap.size+1) 0 (υ aD aP)):=by
 have a:=h.b1.puts 0 (υ aD aP) (by omega);rw[mK _ _ D] at a;exact⟨ni h.low (by omega) _ _,a,DW.bb h.b2 (by omega)⟩
theorem RR.zero2(h:RR w L1 [κ G 0 0,κ G 0 0,κ G 0 0] ι):RR w L1 [κ G 0 0,κ G 0 0,κ G 0 0] (ι.setCells (w.heap.size+2) 0 [κ G 0 0,κ G 0 0,κ G 0 0]):=by
 have a:=h.b2.puts 0 [κ G 0 0,κ G 0 0,κ G 0 0] (by simp);rw[mK _ _ D] at a;exact⟨ni h.low (by omega) _ _,DW.bb h.b1 (by omega),a⟩
theorem vS:aP.isSl:=by
 intro j a;have hc:j=0 \/ j=1 \/ j=2 \/ j=3 \/ j=4:=by omega
 rcases hc with rfl|rfl|rfl|rfl|rfl <;> exact⟨G,0,0,D⟩
end
theorem tZ{w:u}{B z n:Nat}{t:TypeId}{v:π}{xs:List π}(h:w.ownsRow B t z v n xs):∃ a c,v=κ a n c:=by
 rcases h.2 with⟨b,e1⟩|⟨g,d,e,b,_⟩
 ·exact⟨G,0,by rw[b,e1]⟩
 ·exact⟨_,_,b⟩
theorem kC{W:u}{S:Sl}{M:Mach}(h:cf W S M):S.isSl:=λj b=>by
 obtain⟨a,c,e⟩:=tV (h j b);exact⟨_,_,_,e⟩
abbrev nil3:List π:=[κ G 0 0,κ G 0 0,κ G 0 0]
section
variable {w1 ι Y' : u} {X : Mach} {S' : Sl} {L : List π}
end
theorem lH(a1 a2 a3:Option Addr)(a b c c1 c2 c3:Nat):(#[κ a1 a c1,κ a2 b c2,κ a3 c c3]:Array π).all (·.oneCell')=true:=by simp[bi]
theorem Lk.rcheck(l:List Inp)(v:π)(B:Nat)(a:Int)(w:u)(h:bP B w v l)(hB:B<=w.heap.size):Calls prog 21 #[v,J Q a] w λe w'=>e=.returned (J Q (chkIn l a))/\Below w.heap.size w w':=by
 obtain⟨a1,k1,e1⟩:=h.len;subst e1;by_cases F:40<l.length
 ·have t:(40:Int)<l.length:=by omega
  have n:chkIn l a=2:=am F;rw[n];clear h n;go_enter func21,ntmps21;go_wp2;go_ret;exact⟨D,aR w⟩
 ·have t:¬ (40:Int)<l.length:=by omega
  have n:chkIn l a=chkL l a:=ae F;rw[n];have H:=hid h;clear h n;go_enter func21,ntmps21;go_wp2;go_loopw [14,5] (λi P wr=>∃(j:Nat) (d:Int),j<=l.length/\i=J Q j/\P=J Q d/\chkL (l.drop j) d=chkL l a/\Below w.heap.size w wr) (λi _ _=>l.length-(intOf i).toNat)
  case atStart=>exact⟨0,a,bh _,D,D,D,aR w⟩
  case round =>
   obtain⟨j,d,hj,rfl,rfl,y,hb⟩:=hrel;have f:=hid y;have m:=hid hb;by_cases b:j<l.length
   ·obtain⟨x,s⟩:∃ x,l[j]?=some x:=⟨_,aq b⟩
    have I:l.drop j=x::l.drop (j+1):=by
     rw[dx b];congr 1;rw[aq b] at s;exact aL s
    have L:=(H.out.kept (hb.mono hB))
    obtain⟨g,o,k,ev,gz,x0,x1,x2⟩:=L.at' s;cases ev;have R:(j:Int)<l.length:=by omega
    have T:(0:Int)<=j:=by omega
    have q:=hid I;clear y hb I s L;by_cases q1:x.c<d
    ·go_wp2
     go_ret;exact⟨by rw[<- f.out,q.out,chk3 (Or.inl q1)];rfl,stA m.out _⟩
    ·have U:d<=x.c:=by omega
     by_cases M:400000<x.c
     ·go_wp2
      go_ret;exact⟨by rw[<- f.out,q.out,chk3 (Or.inr M)];rfl,stA m.out _⟩
     ·have V:x.c<=400000:=by omega
      have z:Hid (¬ (x.c<d \/ 400000<x.c)):=λe=>e.elim (λe=>by omega) (λe=>by omega)
      clear q1 M;by_cases N:x.p<0
      ·have r:Hid (¬ (x.p=0 \/ x.p=1)):=λe=>e.elim (λe=>by omega) (λe=>by omega)
       go_wp2;go_ret;exact⟨by rw[<- f.out,q.out,chk5 z.out r.out];rfl,stA m.out _⟩
      ·have W:0<=x.p:=by omega
       by_cases X:1<x.p
       ·have r:Hid (¬ (x.p=0 \/ x.p=1)):=λe=>e.elim (λe=>by omega) (λe=>by omega)
        clear N;go_wp2;go_ret;exact⟨by rw[<- f.out,q.out,chk5 z.out r.out];rfl,stA m.out _⟩
       ·have Z:x.p<=1:=by omega
        have r:Hid (x.p=0 \/ x.p=1):=hid (by omega);clear N X;go_wp2;exact⟨⟨j+1,x.c,by omega,by simp,D,by rw[<- f.out,q.out,chk0 z.out r.out],stA m.out _⟩,by simp[intOf];omega⟩
   ·have E:j=l.length:=by omega
    subst E;have hnl:¬ (l.length:Int)<l.length:=by omega
    clear y hb;go_wp2;go_ret;refine⟨?_,m.out⟩;have:=f.out;rw[fu] at this;rw[<- this];rfl
/-! ### inputs that are right -/
theorem wE{l:List Inp}{a:Int}(h:chkIn l a=0):l.length<=40/\chkL l a=0:=by
 unfold chkIn at h;split at h
 ·cases h
 ·exact⟨by omega,h⟩
def rest(l:List Inp)(c:Int)(j:Nat):List Inp:=(l.take j).filter (λx=>decide (c<=x.c))
/-! ### what lies where -/
/-! ### a frame over one letter -/
end Go.Proofs.YthghjlinhokimaaGreatDoor
