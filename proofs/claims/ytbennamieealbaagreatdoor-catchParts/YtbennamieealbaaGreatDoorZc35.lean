/-
  Parts of a proof, joined.
-/
import Derived.Test.YtbennamieealbaaGreatDoorZc07
import Derived.Test.YtbennamieealbaaGreatDoorZc29
import Derived.Test.YtbennamieealbaaGreatDoorZc32
import Derived.Test.YtbennamieealbaaGreatDoorZc34
set_option linter.unusedVariables false
set_option maxRecDepth 100000
set_option maxHeartbeats 6400000
namespace Go.Proofs.YtbennamieealbaaGreatDoor
open Go.ChangeShapes Go.WideShapes Go.ChangeAt Go.RowKit
section
variable {F : Fx} {N c : Nat} {vco vln vsm vw : Value} {w w1 : World} {k : Cs} {X : Mach} {L1 L2 : List Value} {Y : World} {D : Nat}
theorem ziD (k0:Cs) (j:Nat):k0.clocks (j+1)={ (k0.clocks j).now with s:=⟨(k0.clocks j).now.s.M.goOn,(k0.clocks j).now.s.n,(k0.clocks j).now.s.l⟩ }:=rfl
theorem zm0 (hF:Fb F N) {q:Cs} {w2 w3:World} {v:Value} (h:CI F N c vco vln vsm w2 q) (hB:Bd F w3 q.s.M.goOn ⟨q.s.n,q.s.l,v⟩) (hT:Bt F w2 w3):CI F N c vco vln vsm w3 { q with s:=⟨q.s.M.goOn,q.s.n,q.s.l⟩ } :=
 h.step (NM.of (s':=⟨q.s.M.goOn,q.s.n,q.s.l⟩) hF h.i h.i.n hB hT)
structure RR (w : World) (L1 L2 : List Value) (Y : World) : Prop where
 low:Below w.heap.size w Y
 b1:Bx Y (w.heap.size+1) L1
 b2:Bx Y (w.heap.size+2) L2
theorem RR.kept (h:RR w L1 L2 Y) (hb:Below Y.heap.size Y w1):RR w L1 L2 w1:=⟨stp h.low hb,h.b1.kept hb,h.b2.kept hb⟩
theorem RR.far {B:Nat} (h:RR w L1 L2 Y) (hB:w.heap.size+3<=B) (hb:Below B Y w1):RR w L1 L2 w1:=⟨h.low.trans (hb.mono (by omega)),h.b1.same hb.size (hb.block _ (by omega)),h.b2.same hb.size (hb.block _ (by omega))⟩
structure FW (F : Fx) (N : Nat) (k : Cs) (X : Mach) (vln vsm vw : Value) (w : World) (D : Nat) (L1 L2 : List Value) (Y : World) : Prop extends RR w L1 L2 Y where
 o1:Bx Y D (machL X F.S)
 o2:Bx Y (D+1) [vln,vsm,vw]
 told:Told F N k vln vsm vw Y
 dz:w.heap.size+3<=D
 new:SlNew F.B F.S
 bz:w.heap.size+3<=F.B/\F.B<=N
theorem FW.s (h:FW F N k X vln vsm vw w D L1 L2 Y):Y.rangeAt D 0 (machL X F.S)/\Y.rangeAt (D+1) 0 [vln,vsm,vw]:=⟨h.o1.c,h.o2.c⟩
theorem FW.kept (h:FW F N k X vln vsm vw w D L1 L2 Y) (hb:Below Y.heap.size Y w1):FW F N k X vln vsm vw w D L1 L2 w1 :=
 ⟨h.toRR.kept hb,h.o1.kept hb,h.o2.kept hb,⟨h.told.sl.kept hb,h.told.fit,zaF h.told.ln (λj e=>hb.block j (zaI h.told.ln j e).2.1),zaF h.told.sm (λj e=>hb.block j (zaI h.told.sm j e).2.1),zaF h.told.ws (λj e=>hb.block j (zaI h.told.ws j e).2.1)⟩,h.dz,h.new,h.bz⟩
theorem Told.far {b o:Nat} {vs:List Value} (h:Told F N k vln vsm vw Y) (hn:SlNew F.B F.S) (hb:b<F.B) (hN:F.B<=N):Told F N k vln vsm vw (Y.setCells b o vs) :=
 ⟨h.sl.off hn hb o vs,h.fit,zaF h.ln (λj e=>zad (by have:=(zaI h.ln j e).1;omega) _ _ _),zaF h.sm (λj e=>zad (by have:=(zaI h.sm j e).1;omega) _ _ _),zaF h.ws (λj e=>zad (by have:=(zaI h.ws j e).1;omega) _ _ _)⟩
theorem FW.put1 (h:FW F N k X vln vsm vw w D (machL zeroM nilS) L2 Y):FW F N k X vln vsm vw w D (machL X F.S) L2 (Y.setCells (w.heap.size+1) 0 (machL X F.S)):=by
 obtain ⟨z1,z2⟩:=h.bz
 have z3:=h.dz
 have hx:=h.b1.puts 0 (machL X F.S) (by rw [zae,zae];omega)
 rw [zau _ _ (by rw [zae,zae])] at hx
 exact ⟨⟨zaC h.low (by omega) _ _,hx,DW.bb h.b2 (by omega)⟩,DW.bb h.o1 (by omega),DW.bb h.o2 (by omega),h.told.far h.new (by omega) z2,h.dz,h.new,h.bz⟩
theorem FW.put2 {x y z:Value} (h:FW F N k X vln vsm vw w D L1 [x,y,z] Y):FW F N k X vln vsm vw w D L1 [vln,vsm,vw] (Y.setCells (w.heap.size+2) 0 [vln,vsm,vw]):=by
 obtain ⟨z1,z2⟩:=h.bz
 have z3:=h.dz
 have hx:=h.b2.puts 0 [vln,vsm,vw] (by simp)
 rw [zau _ _ (by simp)] at hx
 exact ⟨⟨zaC h.low (by omega) _ _,DW.bb h.b1 (by omega),hx⟩,DW.bb h.o1 (by omega),DW.bb h.o2 (by omega),h.told.far h.new (by omega) z2,h.dz,h.new,h.bz⟩
structure EW (F : Fx) (N : Nat) (k : Cs) (X : Mach) (vln vsm vw : Value) (w : World) (D : Nat) (L1 L2 : List Value) (Y : World) : Prop extends RR w L1 L2 Y where
 o1:Bx Y D (machL X F.S)
 o2:Bx Y (D+1) L2
 old:∃ w2:World,w2.heap.size=D/\Told F N k vln vsm vw w2/\Below w2.heap.size w2 Y
 dz:w.heap.size+3<=D
theorem Told.kept (h:Told F N k vln vsm vw Y) (hb:Below Y.heap.size Y w1):Told F N k vln vsm vw w1:=⟨h.sl.kept hb,h.fit,zaF h.ln (λj e=>hb.block j (zaI h.ln j e).2.1),zaF h.sm (λj e=>hb.block j (zaI h.sm j e).2.1),zaF h.ws (λj e=>hb.block j (zaI h.ws j e).2.1)⟩
theorem EW.mk' {w2:World} (hR:RR w (machL zeroM nilS) [.slice none 0 0,.slice none 0 0,.slice none 0 0] w2) (hT:Told F N k vln vsm vw w2):EW F N k X vln vsm vw w w2.heap.size (machL zeroM nilS) [.slice none 0 0,.slice none 0 0,.slice none 0 0] (((w2.alloc (.cells (machL zeroM nilS).toArray 41)).alloc (.cells #[.slice none 0 0,.slice none 0 0,.slice none 0 0] 50)).setCells w2.heap.size 0 (machL X F.S)):=by
 have hb:Below w2.heap.size w2 (((w2.alloc (.cells (machL zeroM nilS).toArray 41)).alloc (.cells #[.slice none 0 0,.slice none 0 0,.slice none 0 0] 50)).setCells w2.heap.size 0 (machL X F.S)):=Bl.puts (stA (stA (st0 w2) _) _) (Nat.le_refl _) _
 have hx:=((Bx.new w2 (machL zeroM nilS) 41 (b:=w2.heap.size) rfl).over (.cells #[.slice none 0 0,.slice none 0 0,.slice none 0 0] 50)).puts 0 (machL X F.S) (by rw [zae,zae];omega)
 rw [zau _ _ (by rw [zae,zae])] at hx
 have hz:=hR.b2.z
 exact ⟨hR.kept hb,hx,DW.bb (Bx.new (w2.alloc (.cells (machL zeroM nilS).toArray 41)) [.slice none 0 0,.slice none 0 0,.slice none 0 0] 50 (b:=w2.heap.size+1) (by simp)) (by omega),⟨w2,rfl,hT,hb⟩,by omega⟩
theorem EW.fw (h:EW F N k X vln vsm vw w D (machL zeroM nilS) [.slice none 0 0,.slice none 0 0,.slice none 0 0] Y) (hn:SlNew F.B F.S) (hz:w.heap.size+3<=F.B/\F.B<=N):FW F N k X vln vsm vw w D (machL zeroM nilS) [.slice none 0 0,.slice none 0 0,.slice none 0 0] (Y.setCells (D+1) 0 [vln,vsm,vw]):=by
 obtain ⟨w2,rfl,hT,hb⟩:=h.old
 obtain ⟨z1,z2⟩:=hz
 have z3:=h.dz
 have hx:=h.o2.puts 0 [vln,vsm,vw] (by simp)
 rw [zau _ _ (by simp)] at hx
 have hb':Below w2.heap.size w2 (Y.setCells (w2.heap.size+1) 0 [vln,vsm,vw]):=zaC hb (by omega) _ _
 exact ⟨⟨zaC h.low (by omega) _ _,DW.bb h.b1 (by omega),DW.bb h.b2 (by omega)⟩,DW.bb h.o1 (by omega),hx,hT.kept hb',h.dz,hn,⟨z1,z2⟩⟩
theorem zhV (M:Mach) (S:Sl) (v:Value) (l:List Inp) (n:Nat) (w:World) (hs:SlAt w S M) (hsh:shapesAt w) (hin:InpAt w.heap.size w v l) (hd:∀ x∈l,0<=x.d/\x.d<=255) (hf:M.fit) (hf2:M.b.f<=20000) (hc:chkIn l M.clock=0) (hn:n<=20000/\M.clock+n<=200000) :
 Calls Tryz.prog 11 #[.agg (machL M S).toArray,v,.int .i64 n] w λe w'=>∃ (F:Fx) (N:Nat) (vln vsm vw:Value),e = .returned (.tuple #[.agg (machL (Cs.clocks ⟨⟨M,0,[]⟩,l,[],[]⟩ n).s.M F.S).toArray,.agg #[vln,vsm,vw],.int .i64 0])/\Told F N (Cs.clocks ⟨⟨M,0,[]⟩,l,[],[]⟩ n) vln vsm vw w'/\w.heap.size<=F.B/\F.B<=N/\SlNew F.B F.S/\Below w.heap.size w w':=by
 obtain ⟨k0,hk0⟩:∃ k0:Cs,k0=⟨⟨M,0,[]⟩,l,[],[]⟩:=⟨_,rfl⟩
 rw [<- hk0]
 have HK0:=hid hk0
 have hBm:=Bx.new w (machL M S) 41 (b:=w.heap.size) rfl
 have hW:Below w.heap.size w (((w.alloc (.cells (machL M S).toArray 41)).alloc (.cells (machL zeroM nilS).toArray 41)).alloc (.cells #[.slice none 0 0,.slice none 0 0,.slice none 0 0] 50)):=stA (stA (stA (st0 w) _) _) _
 have HRR:Hid (RR w (machL zeroM nilS) [.slice none 0 0,.slice none 0 0,.slice none 0 0] (((w.alloc (.cells (machL M S).toArray 41)).alloc (.cells (machL zeroM nilS).toArray 41)).alloc (.cells #[.slice none 0 0,.slice none 0 0,.slice none 0 0] 50))) :=
  ⟨hW,(Bx.new (w.alloc (.cells (machL M S).toArray 41)) (machL zeroM nilS) 41 (b:=w.heap.size+1) (by simp)).over _,Bx.new ((w.alloc (.cells (machL M S).toArray 41)).alloc (.cells (machL zeroM nilS).toArray 41)) [.slice none 0 0,.slice none 0 0,.slice none 0 0] 50 (b:=w.heap.size+2) (by simp)⟩
 have HBM:=hid ((hBm.over (.cells (machL zeroM nilS).toArray 41)).over (.cells #[.slice none 0 0,.slice none 0 0,.slice none 0 0] 50))
 have HS:=hid (hs.kept hW)
 have HSH:=hid (zbw hsh (hW.block _ (zd6 hsh)))
 have HIN:=hid ((hin.kept hW).mono hW.size)
 have HD:=hid hd
 have HF:=hid hf
 have HF2:=hid hf2
 have HC:=hid hc
 have HN:=hid hn
 clear hs hsh hin hd hf hf2 hc hn hBm hW hk0
 go_enter Tryz.func11,Tryz.ntmps11
 go_wp2_with (first
  | (refine wpList_load_mid rfl 41 _ rfl w.heap.size 0 rfl (machL M S) _ HBM.out.c Tryz.underlying41 rfl zaa ?_)
  | (go_at_call 30;refine (zfg M S v l n _ HS.out HSH.out HIN.out HD.out HF.out HF2.out HC.out ⟨by omega,by have:=HN.out;omega,HN.out.2⟩).mono ?_;rintro e w1 ⟨F,N,c,rfl,hF,hFB,hmr,hCI,hb1⟩;have HFF:=hid hF;have HFB:=hid hFB;have HMR:=hid hmr;have HCI:=hid hCI;have HR1:=hid (HRR.out.kept hb1);clear hF hFB hmr hCI hb1))
 have hci:=HCI.out
 rw [<- HK0.out] at hci
 have HCI0:=hid hci
 have hk0l:k0.ln.length=0/\k0.sm.length=0/\k0.s.l.length=0/\k0.s.M.clock=M.clock:=by rw [HK0.out];exact ⟨rfl,rfl,rfl,rfl⟩
 have HKL:=hid hk0l
 have hFB3:w.heap.size+3<=F.B:=by have:=HFB.out;simp at this;omega
 have HFB3:=hid hFB3
 clear hci hk0l hFB3 HCI HBM HRR HFB HSH HIN HS
 go_loopw [26] (λi wr=>∃ (j:Nat) (vco vln vsm:Value),j<=n/\i = .int .i64 j/\CI F N c vco vln vsm wr (k0.clocks j)/\RR w (machL zeroM nilS) [.slice none 0 0,.slice none 0 0,.slice none 0 0] wr) (λi _=>n-(intOf i).toNat)
 case atStart=>exact ⟨0,v,_,_,Nat.zero_le _,rfl,HCI0.out,HR1.out⟩
 case round =>
  obtain ⟨j,vco,vln,vsm,hj,rfl,hX,hR⟩:=hrel
  have HX:=hid hX
  have HR:=hid hR
  have hat:=zd9 HFF.out k0 (by have:=HKL.out.2.2.1;omega) j (by have:=HN.out;omega)
  obtain ⟨q1,q2,q3,q4⟩:=hat
  rw [HKL.out.2.2.2] at q1
  rw [HKL.out.1] at q2
  rw [HKL.out.2.1] at q3
  rw [HKL.out.2.2.1] at q4
  have Q1:=hid q1
  have Q2:Hid ((k0.clocks j).ln.length<=100000):=hid (by have:=HN.out;omega)
  have Q3:Hid ((k0.clocks j).sm.length<=100000):=hid (by have:=HN.out;omega)
  have Q4:Hid ((k0.clocks j).s.l.length<=1000000):=hid (by have:=HN.out;omega)
  obtain ⟨k,hk⟩:∃ k,k=k0.clocks j:=⟨_,rfl⟩
  have HK:=hid hk
  rw [<- hk] at HX Q1 Q2 Q3 Q4
  clear hX hR q1 q2 q3 q4 hk HCI0 HR1
  by_cases hlt:j<n
  ·as_aux_lemma =>
   have hjl:(j:Int)<n:=by omega
   have hck:k.now.s.M.clock<200000:=by rw [za9,Q1.out];have:=HN.out;omega
   obtain ⟨q,hq⟩:∃ q,q=k.now:=⟨_,rfl⟩
   have hno:=Lk.now HFF.out HX.out Q2.out Q3.out Q4.out
   rw [<- hq] at hck hno
   have HNO:=hid hno
   have HCK:=hid hck
   have HQ:Hid (k0.clocks (j+1)={ q with s:=⟨q.s.M.goOn,q.s.n,q.s.l⟩ }):=hid (by rw [ziD,hq,HK.out])
   clear hno hck hq
   go_wp2_with (first
    | (go_at_call 35;refine HNO.out.mono ?_;rintro e w2 ⟨rfl,u1,u2,u3,hX2,hb2⟩;have HX2:=hid hX2;have HR2:=hid (HR.out.far HFB3.out hb2);have m0:=hX2.cb.bx.at 0 _ rfl;have mz:=hX2.cb.z;clear hX2 hb2))
   as_aux_lemma =>
    obtain ⟨vv,hBd⟩:=HX2.out.i.bd
    refine (Lk.goOn hBd HCK.out).mono ?_
    rintro e w3 ⟨rfl,hB3,hT3⟩
    have HX3:=hid (zm0 HFF.out HX2.out hB3 hT3)
    have HR3:=hid (HR2.out.far HFB3.out (Mv.below hT3))
    clear hBd hB3 hT3
    have hjs:(j:Int)<20000:=by have:=HN.out;omega
    have hjp:0<=(j:Int):=by omega
    as_aux_lemma =>
     go_wp2
     exact ⟨⟨j+1,u1,u2,u3,by omega,by simp,by rw [HQ.out];exact HX3.out,HR3.out⟩,by simp [intOf];omega⟩
  ·as_aux_lemma =>
   have hjn:j=n:=by omega
   subst hjn
   have hnl:¬ (j:Int)<j:=by omega
   obtain ⟨X,hX⟩:∃ X,X=k.s.M:=⟨_,rfl⟩
   have hdn:=Lk.done HFF.out HX.out
   rw [<- hX] at hdn
   have HDN:=hid hdn
   have HNW:Hid (SlNew F.B F.S/\F.B<=N):=hid (by obtain ⟨vv,hBd⟩:=HX.out.i.bd;exact ⟨hBd.slNew HMR.out,HX.out.bigN HFF.out⟩)
   obtain ⟨a2,n2,c2,e2⟩:=zay HX.out.ln
   obtain ⟨a3,n3,c3,e3⟩:=zay HX.out.sm
   have HXE:=hid hX
   clear hdn hX hlt
   subst e2 e3
   have HSI:Hid F.S.isSl:=hid (by obtain ⟨vv,hBd⟩:=HX.out.i.bd;exact hBd.isSl)
   go_upto_region 10 with (first
    | (go_at_call 34;refine HDN.out.mono ?_;rintro e w2 ⟨vw,rfl,hT2,hb2⟩;obtain ⟨a4,n4,c4,e4⟩:=zay hT2.ws;subst e4;have HT2:=hid hT2;have HR2:=hid (HR.out.far HFB3.out hb2);clear hT2 hb2)
    | (refine wpList_store_mid rfl 41 _ _ rfl w2.heap.size 0 (machL X F.S).toArray rfl rfl (((Bx.new w2 (machL zeroM nilS) 41 (b:=w2.heap.size) rfl).over (.cells #[.slice none 0 0,.slice none 0 0,.slice none 0 0] 50)).there 0 75 (by rw [zae];omega)) zaa (zaw _ _ HSI.out) ?_
       refine Pl.cutL (EW F N k X (.slice a2 n2 c2) (.slice a3 n3 c3) (.slice a4 n4 c4) w w2.heap.size (machL zeroM nilS) [.slice none 0 0,.slice none 0 0,.slice none 0 0]) (EW.mk' HR2.out HT2.out) ?_
       intro Z hZ
       have HZ:=hid hZ
       have y0:=hZ.o2.at 0 _ rfl
       have y1:=hZ.o2.at 1 _ rfl
       have y2:=hZ.o2.at 2 _ rfl
       have yf:=hZ.o2.f
       have yz:=hZ.o2.z
       clear hZ))
   refine Pl.cutW (FW F N k X (.slice a2 n2 c2) (.slice a3 n3 c3) (.slice a4 n4 c4) w w2.heap.size (machL zeroM nilS) [.slice none 0 0,.slice none 0 0,.slice none 0 0]) (EW.fw HZ.out HNW.out.1 ⟨HFB3.out,HNW.out.2⟩) ?_
   intro Y1 hY1
   have HY:=hid (hY1.kept (st0 Y1).drew)
   obtain ⟨D,hD⟩:∃ D,D=w2.heap.size:=⟨_,rfl⟩
   clear hY1 HZ y0 y1 y2 yf yz HR2 HT2 HR HX HDN
   refine wp_region_held_drew (S:=λw'=>w'.rangeAt w2.heap.size 0 (machL X F.S)/\w'.rangeAt (w2.heap.size+1) 0 [.slice a2 n2 c2,.slice a3 n3 c3,.slice a4 n4 c4]) (by kernel_rfl) (HY.out.s) ?_
   intro hS
   refine wpAnyH_take (i:=0) (oi:=⟨some 41,_,_,_,_,none⟩) (v:=.agg (machL X F.S).toArray) rfl (by kernel_rfl) (by kernel_rfl) (by kernel_rfl) (λ_ _ _ h=>h) (Or.inl ⟨by rfl,λw' hSw=>zaf 41 _ rfl w2.heap.size 0 rfl (machL X F.S) _ hSw.1 Tryz.underlying41 rfl zaa⟩) hS ?_
   simp only [Act.put,xA,xB,xC]
   refine wpAnyH_take (i:=1) (oi:=⟨some 42,_,_,_,_,none⟩) (v:=.agg ([.slice a2 n2 c2,.slice a3 n3 c3,.slice a4 n4 c4]).toArray) rfl (by kernel_rfl) (by kernel_rfl) (by kernel_rfl) (λ_ _ _ h=>h) (Or.inl ⟨by rfl,λw' hSw=>zaf 50 _ rfl (w2.heap.size+1) 0 rfl ([.slice a2 n2 c2,.slice a3 n3 c3,.slice a4 n4 c4]) _ hSw.2 Tryz.underlying50 rfl zaj⟩) hS ?_
   simp only [Act.put,xA,xB,xC]
   have HY1:=hid HY.out.put1
   refine zaS (i:=2) (op:=⟨none,_,_,_,_,none⟩) (by kernel_rfl) rfl rfl 41 _ _ rfl (w.heap.size+1) 0 (machL X F.S).toArray rfl rfl (HY.out.b1.there 0 75 (by rw [zae];omega)) zaa (zaw _ _ HSI.out) HY1.out.s ?_
   have HY2:=hid HY1.out.put2
   have hth:=HY1.out.b2.there 0 3 (by simp)
   have hone:(([.slice a2 n2 c2,.slice a3 n3 c3,.slice a4 n4 c4]:List Value)).toArray.all (·.oneCell')=true:=by simp [Value.oneCell']
   have hss:=HY2.out.s
   clear hS
   refine zaS (i:=3) (op:=⟨none,_,_,_,_,none⟩) (by kernel_rfl) rfl rfl 50 _ _ rfl (w.heap.size+2) 0 #[.slice a2 n2 c2,.slice a3 n3 c3,.slice a4 n4 c4] rfl rfl hth zaj hone hss ?_
   have hS:=HY2.out.s
   refine tqH 4 ⟨some 8,_,_,_,_,none⟩ hS ?_
   simp only [Act.put,xA,xB,xC]
   refine wpAnyH_done (by kernel_rfl) ?_ _
   refine Pl.cutE (FW F N k X (.slice a2 n2 c2) (.slice a3 n3 c3) (.slice a4 n4 c4) w w2.heap.size (machL X F.S) [.slice a2 n2 c2,.slice a3 n3 c3,.slice a4 n4 c4]) HY2.out ?_
   intro V hV
   have HV:=hid hV
   clear hV HY HY1 HY2 hth hone hss hS
   go_wp2
   have hXk:=HXE.out
   have hkk:=HK.out
   refine bodyPost_ret (v:=.tuple #[.agg (machL X F.S).toArray,.agg #[.slice a2 n2 c2,.slice a3 n3 c3,.slice a4 n4 c4],.int .i64 0]) ?_ rfl ⟨F,N,_,_,_,by rw [hXk,hkk],by have h:=HV.out.told;rw [hkk] at h;exact h,by have:=HFB3.out;omega,HNW.out.2,HNW.out.1,HV.out.low⟩
   have l1:=run_loadVar_mid V (w.heap.size+1) 0 41 _ _ HV.out.b1.c Tryz.underlying41 rfl zaa
   have l2:=run_loadVar_mid V (w.heap.size+2) 0 50 _ _ HV.out.b2.c Tryz.underlying50 rfl zaj
   simp only [results,Tryz.results11]
   simp
   show (Result.andThen (Sem.run Tryz.prog (loadVar 41 ⟨w.heap.size+1,0,none⟩) V) _)=_
   rw [l1]
   show (Result.andThen (Sem.run Tryz.prog (loadVar 50 ⟨w.heap.size+2,0,none⟩) V) _)=_
   rw [l2]
   rfl
end
section
variable {w : World} {L1 L2 : List Value} {Y : World}
theorem RR.zero1 (h:RR w (machL zeroM nilS) L2 Y):RR w (machL zeroM nilS) L2 (Y.setCells (w.heap.size+1) 0 (machL zeroM nilS)):=by
 have hx:=h.b1.puts 0 (machL zeroM nilS) (by omega)
 rw [zau _ _ rfl] at hx
 exact ⟨zaC h.low (by omega) _ _,hx,DW.bb h.b2 (by omega)⟩
theorem RR.zero2 (h:RR w L1 [.slice none 0 0,.slice none 0 0,.slice none 0 0] Y):RR w L1 [.slice none 0 0,.slice none 0 0,.slice none 0 0] (Y.setCells (w.heap.size+2) 0 [.slice none 0 0,.slice none 0 0,.slice none 0 0]):=by
 have hx:=h.b2.puts 0 [.slice none 0 0,.slice none 0 0,.slice none 0 0] (by simp)
 rw [zau _ _ rfl] at hx
 exact ⟨zaC h.low (by omega) _ _,DW.bb h.b1 (by omega),hx⟩
theorem zhW:nilS.isSl:=by
 intro j hj
 have hc:j=0 \/ j=1 \/ j=2 \/ j=3 \/ j=4:=by omega
 rcases hc with rfl|rfl|rfl|rfl|rfl <;> exact ⟨none,0,0,rfl⟩
theorem zfo (M:Mach) (S:Sl) (v:Value) (l:List Inp) (n:Int) (w:World) (hs:SlAt w S M) (hz:∀ j,j<5->(M.byt j).length<=9223372036854775807) (hok:M.ok) (hin:InpAt w.heap.size w v l) (hn:-9223372036854775808<=n/\n<=9223372036854775807) (hr:runErr M l n≠0) :
 Calls Tryz.prog 11 #[.agg (machL M S).toArray,v,.int .i64 n] w λe w'=>e = .returned (.tuple #[.agg (machL zeroM nilS).toArray,.agg #[.slice none 0 0,.slice none 0 0,.slice none 0 0],.int .i64 (runErr M l n)])/\Below w.heap.size w w':=by
 have hBm:=Bx.new w (machL M S) 41 (b:=w.heap.size) rfl
 have hW:Below w.heap.size w (((w.alloc (.cells (machL M S).toArray 41)).alloc (.cells (machL zeroM nilS).toArray 41)).alloc (.cells #[.slice none 0 0,.slice none 0 0,.slice none 0 0] 50)):=stA (stA (stA (st0 w) _) _) _
 have HRR:Hid (RR w (machL zeroM nilS) [.slice none 0 0,.slice none 0 0,.slice none 0 0] (((w.alloc (.cells (machL M S).toArray 41)).alloc (.cells (machL zeroM nilS).toArray 41)).alloc (.cells #[.slice none 0 0,.slice none 0 0,.slice none 0 0] 50))) :=
  ⟨hW,(Bx.new (w.alloc (.cells (machL M S).toArray 41)) (machL zeroM nilS) 41 (b:=w.heap.size+1) (by simp)).over _,Bx.new ((w.alloc (.cells (machL M S).toArray 41)).alloc (.cells (machL zeroM nilS).toArray 41)) [.slice none 0 0,.slice none 0 0,.slice none 0 0] 50 (b:=w.heap.size+2) (by simp)⟩
 have HBM:=hid ((hBm.over (.cells (machL zeroM nilS).toArray 41)).over (.cells #[.slice none 0 0,.slice none 0 0,.slice none 0 0] 50))
 have HS:=hid (hs.kept hW)
 have HIN:=hid ((hin.kept hW).mono hW.size)
 have HZ:=hid hz
 have HOK:=hid hok
 have HN:=hid hn
 obtain ⟨r,hre⟩:∃ r,r=runErr M l n:=⟨_,rfl⟩
 have hop:=zd7 M S v l n _ HS.out HZ.out HOK.out HIN.out HN.out hr
 rw [<- hre] at hr hop ⊢
 have HOP:=hid hop
 clear hs hz hin hok hn hBm hW hop hre
 go_enter Tryz.func11,Tryz.ntmps11
 go_wp2_with (first
  | (refine wpList_load_mid rfl 41 _ rfl w.heap.size 0 rfl (machL M S) _ HBM.out.c Tryz.underlying41 rfl zaa ?_)
  | (go_at_call 30;refine HOP.out.mono ?_;rintro e w1 ⟨rfl,hb1⟩;have HR1:=hid (HRR.out.kept hb1);clear hb1)
  | (refine wpList_store_mid rfl 41 _ _ rfl (w.heap.size+1) 0 (machL zeroM nilS).toArray rfl rfl (HR1.out.b1.there 0 75 (by rw [zae];omega)) zaa (zaw _ _ zhW) ?_
     refine Pl.cutL (RR w (machL zeroM nilS) [.slice none 0 0,.slice none 0 0,.slice none 0 0]) HR1.out.zero1 ?_
     intro Z hZ
     have HZ1:=hid hZ
     clear hZ)
  | (refine wpList_store_mid rfl 50 _ _ rfl (w.heap.size+2) 0 #[.slice none 0 0,.slice none 0 0,.slice none 0 0] rfl rfl (HZ1.out.b2.there 0 3 (by simp)) zaj (by simp [Value.oneCell']) ?_
     refine Pl.cutL (RR w (machL zeroM nilS) [.slice none 0 0,.slice none 0 0,.slice none 0 0]) HZ1.out.zero2 ?_
     intro V hV
     have HV:=hid hV
     clear hV))
 refine bodyPost_ret (v:=.tuple #[.agg (machL zeroM nilS).toArray,.agg #[.slice none 0 0,.slice none 0 0,.slice none 0 0],.int .i64 r]) ?_ rfl ⟨rfl,HV.out.low⟩
 have l1:=run_loadVar_mid V (w.heap.size+1) 0 41 _ _ HV.out.b1.c Tryz.underlying41 rfl zaa
 have l2:=run_loadVar_mid V (w.heap.size+2) 0 50 _ _ HV.out.b2.c Tryz.underlying50 rfl zaj
 simp only [results,Tryz.results11]
 simp
 show (Result.andThen (Sem.run Tryz.prog (loadVar 41 ⟨w.heap.size+1,0,none⟩) V) _)=_
 rw [l1]
 show (Result.andThen (Sem.run Tryz.prog (loadVar 50 ⟨w.heap.size+2,0,none⟩) V) _)=_
 rw [l2]
 rfl
end
def ctAt (b:Nat) (w:World):Int:=match w.cell? ⟨b,72,none⟩ with
 | some (.int _ c)=>c
 | _=>0
theorem zm1 {F:Fx} {w:World} {M:Mach} {tk:Tk} (h:Bd F w M tk):ctAt F.g w=M.clock:=by
 unfold ctAt
 rw [h.at 72 (.int .i64 M.clock) rfl]
section
variable {F : Fx} {N c : Nat} {vco vln vsm : Value} {w : World} {k : Cs} {e : Int} {R : Rn}
theorem Ct.over (h:CI F N c vco vln vsm w k) (hR:RnB F N c e R w):Calls Tryz.prog 32 #[pt R.r 0] w λen w'=>en = .returned (.bool (decide (e<=k.s.M.clock)))/\Below w.heap.size w w':=by
 have r0:=hR.rc 0 _ rfl
 have r1:=hR.rc 1 _ rfl
 have rz:=hR.z
 have k0:=h.cb.bx.at 0 _ rfl
 have kz:=h.cb.z
 obtain ⟨tv,hBd⟩:=h.i.bd
 have m72:=hBd.at 72 (.int .i64 k.s.M.clock) rfl
 have mz:=hBd.bx.z
 clear h hR hBd
 by_cases hle:e<=k.s.M.clock
 ·rw [decide_eq_true hle]
  go_enter Tryz.func32,Tryz.ntmps32
  go_wp2
  go_quiet (fail)
  go_wp2
  go_ret
  exact ⟨rfl,Bl.drewN (st0 w) nq⟩
 ·rw [decide_eq_false hle]
  have hlt:k.s.M.clock<e:=by omega
  go_enter Tryz.func32,Tryz.ntmps32
  go_wp2
  go_quiet (fail)
  go_wp2
  go_ret
  exact ⟨congrArg Ending.returned (congrArg Value.bool (decide_eq_false (by omega))),Bl.drewN (st0 w) nq⟩
theorem zki (M:Mach) (S:Sl) (v:Value) (l:List Inp) (n:Nat) (w:World) (P:Cs->Prop) (hs:SlAt w S M) (hsh:shapesAt w) (hin:InpAt w.heap.size w v l) (hd:∀ x∈l,0<=x.d/\x.d<=255) (hf:M.fit) (hf2:M.b.f<=20000) (hc:chkIn l M.clock=0) (hn:n<=20000/\M.clock+n<=200000)
 (hP0:P ⟨⟨M,0,[]⟩,l,[],[]⟩) (hPs:∀ k,P k->k.s.M.clock<M.clock+n->k.now.s.M.fit->P (k.event (M.clock+n))) (hPb:∀ (F:Fx) (N:Nat),Fb F N->∀ k,P k->k.ln.length<=90000/\k.sm.length<=80000/\k.s.l.length<=1000000) :
 Calls Tryz.prog 10 #[.agg (machL M S).toArray,v,.int .i64 n] w λe w'=>∃ (F:Fx) (N:Nat) (vln vsm vw:Value) (k:Cs),P k /\ ¬ k.s.M.clock<M.clock+n/\e = .returned (.tuple #[.agg (machL k.s.M F.S).toArray,.agg #[vln,vsm,vw],.int .i64 0])/\Told F N k vln vsm vw w'/\w.heap.size<=F.B/\F.B<=N/\SlNew F.B F.S/\Below w.heap.size w w':=by
 have hBm:=Bx.new w (machL M S) 41 (b:=w.heap.size) rfl
 have hW:Below w.heap.size w (((w.alloc (.cells (machL M S).toArray 41)).alloc (.cells (machL zeroM nilS).toArray 41)).alloc (.cells #[.slice none 0 0,.slice none 0 0,.slice none 0 0] 50)):=stA (stA (stA (st0 w) _) _) _
 have HRR:Hid (RR w (machL zeroM nilS) [.slice none 0 0,.slice none 0 0,.slice none 0 0] (((w.alloc (.cells (machL M S).toArray 41)).alloc (.cells (machL zeroM nilS).toArray 41)).alloc (.cells #[.slice none 0 0,.slice none 0 0,.slice none 0 0] 50))) :=
  ⟨hW,(Bx.new (w.alloc (.cells (machL M S).toArray 41)) (machL zeroM nilS) 41 (b:=w.heap.size+1) (by simp)).over _,Bx.new ((w.alloc (.cells (machL M S).toArray 41)).alloc (.cells (machL zeroM nilS).toArray 41)) [.slice none 0 0,.slice none 0 0,.slice none 0 0] 50 (b:=w.heap.size+2) (by simp)⟩
 have HBM:=hid ((hBm.over (.cells (machL zeroM nilS).toArray 41)).over (.cells #[.slice none 0 0,.slice none 0 0,.slice none 0 0] 50))
 have HS:=hid (hs.kept hW)
 have HSH:=hid (zbw hsh (hW.block _ (zd6 hsh)))
 have HIN:=hid ((hin.kept hW).mono hW.size)
 have HD:=hid hd
 have HF:=hid hf
 have HF2:=hid hf2
 have HC:=hid hc
 have HN:=hid hn
 have HP0:=hid hP0
 have HPS:=hid hPs
 have HPB:=hid hPb
 have hcw:IntKind.i64.wrap (M.clock+n)=M.clock+n:=by have:=hf.clock;rw [IntKind.wrap_i64];omega
 clear hs hsh hin hd hf hf2 hc hn hBm hW hP0 hPs hPb
 go_enter Tryz.func10,Tryz.ntmps10
 go_wp2_with (first
  | (refine wpList_load_mid rfl 41 _ rfl w.heap.size 0 rfl (machL M S) _ HBM.out.c Tryz.underlying41 rfl zaa ?_)
  | (go_at_call 30;refine (zfg M S v l n _ HS.out HSH.out HIN.out HD.out HF.out HF2.out HC.out ⟨by omega,by have:=HN.out;omega,HN.out.2⟩).mono ?_;rintro e w1 ⟨F,N,c,rfl,hF,hFB,hmr,hCI,hb1⟩;have HFF:=hid hF;have HFB:=hid hFB;have HMR:=hid hmr;have HCI:=hid hCI;have HR1:=hid (HRR.out.kept hb1);have m72:=(HBM.out.kept hb1).at 72 (.int .i64 M.clock) rfl;have mmz:=(HBM.out.kept hb1).z;clear hF hFB hmr hCI hb1)
  | (go_at_call 31;refine (Ct.newRunner (F:=F) (N:=N) (HCI.out.cb.bx.at 0 _ rfl) HCI.out.i.N (M.clock+n)).mono ?_;rintro e wn ⟨⟨R,rfl,hR⟩,hbn⟩;have HRB:=hid hR;have HCI0:=hid (HCI.out.keep HFF.out hbn);have HR0:=hid (HR1.out.kept hbn);clear hR hbn))
 have hFB3:w.heap.size+3<=F.B:=by have:=HFB.out;simp at this;omega
 have HFB3:=hid hFB3
 clear hFB3 HCI HBM HRR HFB HSH HIN HS HR1 m72 mmz
 go_loopw [] (λwr=>∃ (k:Cs) (vco vln vsm:Value),P k/\CI F N c vco vln vsm wr k/\RnB F N c (M.clock+n) R wr/\RR w (machL zeroM nilS) [.slice none 0 0,.slice none 0 0,.slice none 0 0] wr) (λwr=>(M.clock+n-ctAt F.g wr).toNat)
 case atStart=>exact ⟨_,v,_,_,HP0.out,HCI0.out,HRB.out,HR0.out⟩
 case round =>
  obtain ⟨k,vco,vln,vsm,hP,hX,hRB,hR⟩:=hrel
  clear HCI0 HRB HR0
  have hov:=Ct.over hX hRB
  have hat:ctAt F.g wr=k.s.M.clock:=by obtain ⟨vv,hBd⟩:=hX.i.bd;exact zm1 hBd
  have HAT:=hid hat
  have HP:=hid hP
  have HX0:=hid hX
  have HRB0:=hid hRB
  have HR1:=hid hR
  clear hP hX hRB hR hat
  by_cases hlt:k.s.M.clock<M.clock+n
  ·as_aux_lemma =>
   rw [decide_eq_false (by omega)] at hov
   have HOV:=hid hov
   have HLT:=hid hlt
   clear hov hlt
   obtain ⟨p1,p2,p3⟩:=HPB.out _ _ HFF.out k HP.out
   have HPP:=hid (show k.ln.length<=90000/\k.sm.length<=80000/\k.s.l.length<=1000000 from ⟨p1,p2,p3⟩)
   clear p1 p2 p3
   go_wp2_with (first
    | (go_at_call 32;refine HOV.out.mono ?_;rintro e wq ⟨rfl,hbq⟩;have HX:=hid (HX0.out.keep HFF.out hbq);have HRB1:=hid (HRB0.out.kp (Kp.of hbq));have HR2:=hid (HR1.out.kept hbq);clear hbq)
    | (go_at_call 33;refine (Ct.event HFF.out HX.out HRB1.out HPP.out.1 HPP.out.2.1 HPP.out.2.2 HLT.out HN.out.2).mono ?_;rintro e w2 ⟨rfl,⟨u1,u2,u3,hX2⟩,hb2,hr2,hf2,hc1,hc2⟩;have HX2:=hid hX2;have HRB2:=hid hr2;have HR3:=hid (HR2.out.far HFB3.out hb2);have HFI:=hid hf2;have HC1:=hid hc1;clear hX2 hb2 hr2 hf2 hc1 hc2))
   have hat2:ctAt F.g w2=(k.event (M.clock+n)).s.M.clock:=by obtain ⟨vv,hBd⟩:=HX2.out.i.bd;exact zm1 hBd
   refine ⟨⟨k.event (M.clock+n),u1,u2,u3,HPS.out k HP.out HLT.out HFI.out,HX2.out,HRB2.out,HR3.out⟩,?_⟩
   have h1:=HC1.out
   have h2:=HLT.out
   have h3:=HAT.out
   rw [hat2,h3]
   omega
  ·as_aux_lemma =>
   rw [decide_eq_true (by omega)] at hov
   have HOV:=hid hov
   have HGE:=hid hlt
   clear hov
   go_upto_region 7 with (go_at_call 32;refine HOV.out.mono ?_;rintro e wq ⟨rfl,hbq⟩;have HX:=hid (HX0.out.keep HFF.out hbq);have HR:=hid (HR1.out.kept hbq);clear hbq)
   clear HX0 HRB0 HR1 HOV
   obtain ⟨X,hX⟩:∃ X,X=k.s.M:=⟨_,rfl⟩
   have hdn:=Lk.done HFF.out HX.out
   rw [<- hX] at hdn
   have HDN:=hid hdn
   have HNW:Hid (SlNew F.B F.S/\F.B<=N):=hid (by obtain ⟨vv,hBd⟩:=HX.out.i.bd;exact ⟨hBd.slNew HMR.out,HX.out.bigN HFF.out⟩)
   obtain ⟨a2,n2,c2,e2⟩:=zay HX.out.ln
   obtain ⟨a3,n3,c3,e3⟩:=zay HX.out.sm
   have HXE:=hid hX
   clear hdn hX hlt
   subst e2 e3
   have HSI:Hid F.S.isSl:=hid (by obtain ⟨vv,hBd⟩:=HX.out.i.bd;exact hBd.isSl)
   go_upto_region 8 with (first
    | (go_at_call 34;refine HDN.out.mono ?_;rintro e w2 ⟨vw,rfl,hT2,hb2⟩;obtain ⟨a4,n4,c4,e4⟩:=zay hT2.ws;subst e4;have HT2:=hid hT2;have HR2:=hid (HR.out.far HFB3.out hb2);clear hT2 hb2)
    | (refine wpList_store_mid rfl 41 _ _ rfl w2.heap.size 0 (machL X F.S).toArray rfl rfl (((Bx.new w2 (machL zeroM nilS) 41 (b:=w2.heap.size) rfl).over (.cells #[.slice none 0 0,.slice none 0 0,.slice none 0 0] 50)).there 0 75 (by rw [zae];omega)) zaa (zaw _ _ HSI.out) ?_
       refine Pl.cutL (EW F N k X (.slice a2 n2 c2) (.slice a3 n3 c3) (.slice a4 n4 c4) w w2.heap.size (machL zeroM nilS) [.slice none 0 0,.slice none 0 0,.slice none 0 0]) (EW.mk' HR2.out HT2.out) ?_
       intro Z hZ
       have HZ:=hid hZ
       have y0:=hZ.o2.at 0 _ rfl
       have y1:=hZ.o2.at 1 _ rfl
       have y2:=hZ.o2.at 2 _ rfl
       have yf:=hZ.o2.f
       have yz:=hZ.o2.z
       clear hZ))
   refine Pl.cutW (FW F N k X (.slice a2 n2 c2) (.slice a3 n3 c3) (.slice a4 n4 c4) w w2.heap.size (machL zeroM nilS) [.slice none 0 0,.slice none 0 0,.slice none 0 0]) (EW.fw HZ.out HNW.out.1 ⟨HFB3.out,HNW.out.2⟩) ?_
   intro Y1 hY1
   have HY:=hid (hY1.kept (st0 Y1).drew)
   obtain ⟨D,hD⟩:∃ D,D=w2.heap.size:=⟨_,rfl⟩
   clear hY1 HZ y0 y1 y2 yf yz HR2 HT2 HR HX HDN
   refine wp_region_held_drew (S:=λw'=>w'.rangeAt w2.heap.size 0 (machL X F.S)/\w'.rangeAt (w2.heap.size+1) 0 [.slice a2 n2 c2,.slice a3 n3 c3,.slice a4 n4 c4]) (by kernel_rfl) (HY.out.s) ?_
   intro hS
   refine wpAnyH_take (i:=0) (oi:=⟨some 42,_,_,_,_,none⟩) (v:=.agg (machL X F.S).toArray) rfl (by kernel_rfl) (by kernel_rfl) (by kernel_rfl) (λ_ _ _ h=>h) (Or.inl ⟨by rfl,λw' hSw=>zaf 41 _ rfl w2.heap.size 0 rfl (machL X F.S) _ hSw.1 Tryz.underlying41 rfl zaa⟩) hS ?_
   simp only [Act.put,xA,xB,xC]
   refine wpAnyH_take (i:=1) (oi:=⟨some 43,_,_,_,_,none⟩) (v:=.agg ([.slice a2 n2 c2,.slice a3 n3 c3,.slice a4 n4 c4]).toArray) rfl (by kernel_rfl) (by kernel_rfl) (by kernel_rfl) (λ_ _ _ h=>h) (Or.inl ⟨by rfl,λw' hSw=>zaf 50 _ rfl (w2.heap.size+1) 0 rfl ([.slice a2 n2 c2,.slice a3 n3 c3,.slice a4 n4 c4]) _ hSw.2 Tryz.underlying50 rfl zaj⟩) hS ?_
   simp only [Act.put,xA,xB,xC]
   have HY1:=hid HY.out.put1
   refine zaS (i:=2) (op:=⟨none,_,_,_,_,none⟩) (by kernel_rfl) rfl rfl 41 _ _ rfl (w.heap.size+1) 0 (machL X F.S).toArray rfl rfl (HY.out.b1.there 0 75 (by rw [zae];omega)) zaa (zaw _ _ HSI.out) HY1.out.s ?_
   have HY2:=hid HY1.out.put2
   have hth:=HY1.out.b2.there 0 3 (by simp)
   have hone:(([.slice a2 n2 c2,.slice a3 n3 c3,.slice a4 n4 c4]:List Value)).toArray.all (·.oneCell')=true:=by simp [Value.oneCell']
   have hss:=HY2.out.s
   clear hS
   refine zaS (i:=3) (op:=⟨none,_,_,_,_,none⟩) (by kernel_rfl) rfl rfl 50 _ _ rfl (w.heap.size+2) 0 #[.slice a2 n2 c2,.slice a3 n3 c3,.slice a4 n4 c4] rfl rfl hth zaj hone hss ?_
   have hS:=HY2.out.s
   refine tqH 4 ⟨some 8,_,_,_,_,none⟩ hS ?_
   simp only [Act.put,xA,xB,xC]
   refine wpAnyH_done (by kernel_rfl) ?_ _
   refine Pl.cutE (FW F N k X (.slice a2 n2 c2) (.slice a3 n3 c3) (.slice a4 n4 c4) w w2.heap.size (machL X F.S) [.slice a2 n2 c2,.slice a3 n3 c3,.slice a4 n4 c4]) HY2.out ?_
   intro V hV
   have HV:=hid hV
   clear hV HY HY1 HY2 hth hone hss hS
   go_wp2
   have hXk:=HXE.out
   refine bodyPost_ret (v:=.tuple #[.agg (machL X F.S).toArray,.agg #[.slice a2 n2 c2,.slice a3 n3 c3,.slice a4 n4 c4],.int .i64 0]) ?_ rfl ⟨F,N,_,_,_,k,HP.out,HGE.out,by rw [hXk],HV.out.told,by have:=HFB3.out;omega,HNW.out.2,HNW.out.1,HV.out.low⟩
   have l1:=run_loadVar_mid V (w.heap.size+1) 0 41 _ _ HV.out.b1.c Tryz.underlying41 rfl zaa
   have l2:=run_loadVar_mid V (w.heap.size+2) 0 50 _ _ HV.out.b2.c Tryz.underlying50 rfl zaj
   simp only [results,Tryz.results10]
   simp
   show (Result.andThen (Sem.run Tryz.prog (loadVar 41 ⟨w.heap.size+1,0,none⟩) V) _)=_
   rw [l1]
   show (Result.andThen (Sem.run Tryz.prog (loadVar 50 ⟨w.heap.size+2,0,none⟩) V) _)=_
   rw [l2]
   rfl
end
theorem zee (M:Mach) (S:Sl) (v:Value) (l:List Inp) (n:Nat) (w:World) (hs:SlAt w S M) (hsh:shapesAt w) (hin:InpAt w.heap.size w v l) (hd:∀ x∈l,0<=x.d/\x.d<=255) (hf:M.fit) (hf2:M.b.f<=19900) (hc:chkIn l M.clock=0) (hn:n<=20000/\M.clock+n<=200000) :
 Calls Tryz.prog 10 #[.agg (machL M S).toArray,v,.int .i64 n] w λe w'=>∃ (F:Fx) (N:Nat) (vln vsm vw:Value),e = .returned (.tuple #[.agg (machL (Cs.clocks ⟨⟨M,0,[]⟩,l,[],[]⟩ n).s.M F.S).toArray,.agg #[vln,vsm,vw],.int .i64 0])/\Told F N (Cs.clocks ⟨⟨M,0,[]⟩,l,[],[]⟩ n) vln vsm vw w'/\w.heap.size<=F.B/\F.B<=N/\SlNew F.B F.S/\Below w.heap.size w w':=by
 have hb:BOk M.b.l M.b.a M.b.f:=⟨hf.b.l0,hf.b.l1,hf.b.a0,hf.b.a1,hf.b.f0,by omega⟩
 obtain ⟨k0,hk0⟩:∃ k0:Cs,k0=⟨⟨M,0,[]⟩,l,[],[]⟩:=⟨_,rfl⟩
 have h1:k0.s.M=M:=by rw [hk0]
 have h2:k0.s.l=[]/\k0.ln=[]/\k0.sm=[]:=by rw [hk0];exact ⟨rfl,rfl,rfl⟩
 refine (zki M S v l n w (Pok k0 n) hs hsh hin hd hf (by omega) hc hn (by rw [<- hk0];exact Pok.zero k0 n) (λk hP hlt hfit=>?_) (λF N hF k hP=>?_)).mono ?_
 ·rw [<- h1] at hlt ⊢
  exact hP.step (by rw [h1];exact hb) (by rw [h1];exact hf2) hn.1 (by rw [h1];exact hn.2) hlt hfit
 ·have:=hP.bd hF h2 hn.1
  omega
 ·rintro e w' ⟨F,N,vln,vsm,vw,k,hP,hge,rfl,hT,g1,g2,g3,g4⟩
  rw [<- h1] at hge
  have hl:=hP.fin hge
  rw [<- hk0]
  have e1:(k0.clocks n).ln=k.ln:=by simpa using hl.ln
  have e2:(k0.clocks n).sm=k.sm:=by simpa using hl.sm
  have e3:(k0.clocks n).s.l=k.s.l:=by simpa using hl.s.l
  exact ⟨F,N,vln,vsm,vw,by rw [hl.s.M],⟨by rw [hl.s.M];exact hT.sl,by rw [hl.s.M];exact hT.fit,by rw [e1];exact hT.ln,by rw [e2];exact hT.sm,by rw [e3];exact hT.ws⟩,g1,g2,g3,g4⟩
section
variable {w : World} {L1 L2 : List Value} {Y : World}
theorem zfp (M:Mach) (S:Sl) (v:Value) (l:List Inp) (n:Int) (w:World) (hs:SlAt w S M) (hz:∀ j,j<5->(M.byt j).length<=9223372036854775807) (hok:M.ok) (hin:InpAt w.heap.size w v l) (hn:-9223372036854775808<=n/\n<=9223372036854775807) (hr:runErr M l n≠0) :
 Calls Tryz.prog 10 #[.agg (machL M S).toArray,v,.int .i64 n] w λe w'=>e = .returned (.tuple #[.agg (machL zeroM nilS).toArray,.agg #[.slice none 0 0,.slice none 0 0,.slice none 0 0],.int .i64 (runErr M l n)])/\Below w.heap.size w w':=by
 have hBm:=Bx.new w (machL M S) 41 (b:=w.heap.size) rfl
 have hW:Below w.heap.size w (((w.alloc (.cells (machL M S).toArray 41)).alloc (.cells (machL zeroM nilS).toArray 41)).alloc (.cells #[.slice none 0 0,.slice none 0 0,.slice none 0 0] 50)):=stA (stA (stA (st0 w) _) _) _
 have HRR:Hid (RR w (machL zeroM nilS) [.slice none 0 0,.slice none 0 0,.slice none 0 0] (((w.alloc (.cells (machL M S).toArray 41)).alloc (.cells (machL zeroM nilS).toArray 41)).alloc (.cells #[.slice none 0 0,.slice none 0 0,.slice none 0 0] 50))) :=
  ⟨hW,(Bx.new (w.alloc (.cells (machL M S).toArray 41)) (machL zeroM nilS) 41 (b:=w.heap.size+1) (by simp)).over _,Bx.new ((w.alloc (.cells (machL M S).toArray 41)).alloc (.cells (machL zeroM nilS).toArray 41)) [.slice none 0 0,.slice none 0 0,.slice none 0 0] 50 (b:=w.heap.size+2) (by simp)⟩
 have HBM:=hid ((hBm.over (.cells (machL zeroM nilS).toArray 41)).over (.cells #[.slice none 0 0,.slice none 0 0,.slice none 0 0] 50))
 have HS:=hid (hs.kept hW)
 have HIN:=hid ((hin.kept hW).mono hW.size)
 have HZ:=hid hz
 have HOK:=hid hok
 have HN:=hid hn
 obtain ⟨r,hre⟩:∃ r,r=runErr M l n:=⟨_,rfl⟩
 have hop:=zd7 M S v l n _ HS.out HZ.out HOK.out HIN.out HN.out hr
 rw [<- hre] at hr hop ⊢
 have HOP:=hid hop
 clear hs hz hin hok hn hBm hW hop hre
 go_enter Tryz.func10,Tryz.ntmps10
 go_wp2_with (first
  | (refine wpList_load_mid rfl 41 _ rfl w.heap.size 0 rfl (machL M S) _ HBM.out.c Tryz.underlying41 rfl zaa ?_)
  | (go_at_call 30;refine HOP.out.mono ?_;rintro e w1 ⟨rfl,hb1⟩;have HR1:=hid (HRR.out.kept hb1);clear hb1)
  | (refine wpList_store_mid rfl 41 _ _ rfl (w.heap.size+1) 0 (machL zeroM nilS).toArray rfl rfl (HR1.out.b1.there 0 75 (by rw [zae];omega)) zaa (zaw _ _ zhW) ?_
     refine Pl.cutL (RR w (machL zeroM nilS) [.slice none 0 0,.slice none 0 0,.slice none 0 0]) HR1.out.zero1 ?_
     intro Z hZ
     have HZ1:=hid hZ
     clear hZ)
  | (refine wpList_store_mid rfl 50 _ _ rfl (w.heap.size+2) 0 #[.slice none 0 0,.slice none 0 0,.slice none 0 0] rfl rfl (HZ1.out.b2.there 0 3 (by simp)) zaj (by simp [Value.oneCell']) ?_
     refine Pl.cutL (RR w (machL zeroM nilS) [.slice none 0 0,.slice none 0 0,.slice none 0 0]) HZ1.out.zero2 ?_
     intro V hV
     have HV:=hid hV
     clear hV))
 refine bodyPost_ret (v:=.tuple #[.agg (machL zeroM nilS).toArray,.agg #[.slice none 0 0,.slice none 0 0,.slice none 0 0],.int .i64 r]) ?_ rfl ⟨rfl,HV.out.low⟩
 have l1:=run_loadVar_mid V (w.heap.size+1) 0 41 _ _ HV.out.b1.c Tryz.underlying41 rfl zaa
 have l2:=run_loadVar_mid V (w.heap.size+2) 0 50 _ _ HV.out.b2.c Tryz.underlying50 rfl zaj
 simp only [results,Tryz.results10]
 simp
 show (Result.andThen (Sem.run Tryz.prog (loadVar 41 ⟨w.heap.size+1,0,none⟩) V) _)=_
 rw [l1]
 show (Result.andThen (Sem.run Tryz.prog (loadVar 50 ⟨w.heap.size+2,0,none⟩) V) _)=_
 rw [l2]
 rfl
end
end Go.Proofs.YtbennamieealbaaGreatDoor
