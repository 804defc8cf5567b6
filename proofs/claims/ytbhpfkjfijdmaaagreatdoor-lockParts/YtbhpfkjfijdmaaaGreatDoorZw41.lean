/-
  For every machine, anything that is pressed and every two numbers the law LockParts of the program returns true and leaves its arguments as they were; the listed library variables are as the tied card says.
-/
import Derived.Test.YtbhpfkjfijdmaaaGreatDoorZw40
import Derived.Test.YtbhpfkjfijdmaaaGreatDoorZw06
import Derived.Test.YtbhpfkjfijdmaaaGreatDoorZw37
namespace Go.Proofs.YtbhpfkjfijdmaaaGreatDoor
open Go.ChangeShapes Go.WideShapes Go.ChangeAt Go.RowKit
set_option linter.unusedVariables false
set_option maxRecDepth 100000
set_option maxHeartbeats 3200000
structure PB (w7 : World) (X : Mach) (SX : Sl) (p1 p2 p3 : Value) (k : Cs) (Y : World) : Prop where
 r:R3 w7 X SX [p1,p2,p3] Y
 sx:SlAt Y SX X
 sh:ShAt Y p1 p2 p3 k.ln k.sm k.s.l
theorem PB.kept {w7:World} {X:Mach} {SX:Sl} {p1 p2 p3:Value} {k:Cs} {Y Y':World} (h:PB w7 X SX p1 p2 p3 k Y) (hb:Below Y.heap.size Y Y'):PB w7 X SX p1 p2 p3 k Y':=⟨h.r.kept hb,h.sx.kept hb,h.sh.kept hb⟩
theorem Lk.parts_ok (M:Mach) (S:Sl) (v:Value) (l:List Inp) (a b:Nat) (w:World) (hF:AF w) (hs:SlAt w S M) (hok:M.ok) (hin:InpAt w.heap.size w v l) (hdn:∀ x ∈ l,0<=x.d/\x.d<=255) (hr:runErr M l a=0) (hr2:runErr M l ((a:Int)+b)=0) (h19:¬ 19000 < M.b.f) (hf:M.fit) (hc:chkIn l M.clock=0) (hab:a+b<=20000) (hcl:M.clock+a+b<=200000) :
 Calls Tryz.prog 3 #[.agg (machL M S).toArray,v,.int .i64 a,.int .i64 b] w fun e w'=>e = .returned (.bool true)/\Below w.heap.size w w':=by
 obtain ⟨k,k2,k3,hT⟩:=two_of M l a b hf (by omega) hc hab
 have HT:=hid hT
 obtain ⟨av,cv,ev⟩:=hin.len
 subst ev
 have HF:=hid hF
 have hq:Below w.heap.size w (w.alloc (.cells (machL M S).toArray 41)):=stA (st0 w) _
 have HB:=hid (Bx.new w (machL M S) 41 (b:=w.heap.size) rfl)
 have HIN:=hid hin
 have HS:=hid hs
 have HOK:=hid hok
 have HRA:=hid hr
 have HRB:=hid hr2
 have HFT:=hid hf
 have HC:=hid hc
 have HDN:=hid hdn
 have HAB:=hid hab
 have HCL:=hid hcl
 have H40:=hid (chkIn_inv hc).1
 have d1:decide ((b:Int) < 0)=false:=decide_eq_false (by omega)
 have d2:decide (20000 - (a:Int) < b)=false:=decide_eq_false (by omega)
 have hd:decide (19000 < M.b.f)=false:=decide_eq_false h19
 have h20:M.b.f<=20000:=by omega
 have H20:=hid h20
 have a0:(0:Int)<=a:=by omega
 have a1:(a:Int)<=20000:=by omega
 have b0:(0:Int)<=b:=by omega
 have b1:(b:Int)<=20000:=by omega
 clear hT hF hs hok hin hr hr2 hf hc hdn hab hcl h19 h20
 go_enter Tryz.func3,Tryz.ntmps3
 go_upto_region 3 with (first
  | (go_at_call 9;refine (Lk.long_any M S _ _).mono ?_;rw [hd];rintro e w4 ⟨rfl,hb4⟩;have HL4:=hid (stp HL3.out hb4);have HB4:=hid (HB3.out.kept hb4);clear hb4)
  | (refine Bu.loadG rfl 41 _ rfl w.heap.size 0 rfl (machL M S) _ HB3.out.c Tryz.underlying41 rfl info_mach ?_)
  | (go_at_call 8;refine (Lk.badRun M S _ l ((a:Int)+b) _ HS.out.lens HOK.out ((HIN.out.kept HL2.out).mono HL2.out.size) ⟨by omega,by omega⟩).mono ?_;rw [HRB.out];rintro e w3 ⟨rfl,hb3⟩;have HB3:=hid (HB2.out.kept hb3);have HL3:=hid (stp HL2.out hb3);clear hb3)
  | (refine Bu.loadG rfl 41 _ rfl w.heap.size 0 rfl (machL M S) _ HB2.out.c Tryz.underlying41 rfl info_mach ?_)
  | (go_at_call 8;refine (Lk.badRun M S _ l a _ HS.out.lens HOK.out ((HIN.out.kept HL1.out).mono HL1.out.size) ⟨by omega,by omega⟩).mono ?_;rw [HRA.out];rintro e w2 ⟨rfl,hb2⟩;have HB2:=hid (HB1.out.kept hb2);have HL2:=hid (stp HL1.out hb2);clear hb2)
  | (refine Bu.loadG rfl 41 _ rfl w.heap.size 0 rfl (machL M S) _ HB1.out.c Tryz.underlying41 rfl info_mach ?_)
  | (go_at_call 7;refine (Lk.locked_any _ (HF.out.kept hq)).mono ?_;rintro e w1 ⟨rfl,hb1⟩;have HB1:=hid (HB.out.kept hb1);have HL1:=hid (stp hq hb1);clear hb1))
 have HR1:=hid (Lk.run_ok M S _ l a w4 (HS.out.kept HL4.out) (HF.out.kept HL4.out).shapes ((HIN.out.kept HL4.out).mono HL4.out.size) HDN.out HFT.out H20.out HC.out ⟨by omega,by have:=HCL.out;omega⟩)
 have e1:=HT.out.e1
 rw [<- e1] at HR1
 clear e1 d1 d2 hd HRA HRB HB HB1 HB2 HB3 HL1 HL2 HL3 hq
 go_upto_region 4 with (first
  | (refine wpList_load_mid rfl 41 _ rfl w.heap.size 0 rfl (machL M S) _ HB4.out.c Tryz.underlying41 rfl info_mach ?_)
  | (go_at_call 10;refine HR1.out.mono ?_;rintro e w5 ⟨F,N,vln,vsm,vw,rfl,hTd,_,_,_,hb5⟩
     obtain ⟨p1,c1,e1⟩:=row_len hTd.ln
     obtain ⟨p2,c2,e2⟩:=row_len hTd.sm
     obtain ⟨p3,c3,e3⟩:=row_len hTd.ws
     subst e1 e2 e3
     have HTD:=hid hTd
     have HL5:=hid (stp HL4.out hb5)
     have HB5:=hid (HB4.out.kept hb5)
     obtain ⟨X,hX⟩:∃ X,X=k.s.M:=⟨_,rfl⟩
     have HXE:=hid hX
     have HSX:Hid (SlAt w5 F.S X):=hid (by rw [hX];exact hTd.sl)
     rw [<- hX]
     clear hTd hb5 hX)
  | (refine wpList_store_mid rfl 41 _ _ rfl w5.heap.size 0 (machL X F.S).toArray rfl rfl (R3.th1 w5) info_mach (machL_one _ _ (isSl_of HSX.out)) ?_
     refine Pl.cutL (R3 w5 X F.S nil3) (R3.mk1 w5 X F.S) ?_
     intro Y1 hY1
     have HY1:=hid hY1
     clear hY1)
  | (refine wpList_store_mid rfl 50 _ _ rfl (w5.heap.size+1) 0 #[.slice p1 k.ln.length c1,.slice p2 k.sm.length c2,.slice p3 k.s.l.length c3] rfl rfl (HY1.out.s.there 0 3 (by simp)) info_shown (one3 _ _ _ _ _ _ _ _ _) ?_
     refine Pl.cutL (R3 w5 X F.S [.slice p1 k.ln.length c1,.slice p2 k.sm.length c2,.slice p3 k.s.l.length c3]) HY1.out.put ?_
     intro Y2 hY2
     have HY2:=hid hY2
     clear hY2))
 have hpa:PA w M S (.slice av l.length cv) l w5 X F.S (.slice p1 k.ln.length c1) (.slice p2 k.sm.length c2) (.slice p3 k.s.l.length c3) k Y2 :=
  ⟨stp HL5.out HY2.out.old,HB5.out.kept HY2.out.old,HS.out.kept (stp HL5.out HY2.out.old),(HIN.out.kept (stp HL5.out HY2.out.old)).mono (stp HL5.out HY2.out.old).size,HY2.out,HSX.out.kept HY2.out.old,(told_sh HTD.out).kept HY2.out.old⟩
 have HPA:=hid hpa
 have HFX:Hid X.fit:=hid (by rw [HXE.out];exact HTD.out.fit)
 clear hpa HY1 HY2 HL5 HB5 HSX HTD HL4 HB4 HR1
 go_cut [1,2,3,4,9,10,11,12] (fun v1 v2 v3 v4 v9 v10 v11 v12 Y=>v1 = .slice av l.length cv/\v2 = .int .i64 a/\v3 = .int .i64 b/\v4=pt w.heap.size 0/\v9=pt w5.heap.size 0/\v10=pt (w5.heap.size+1) 0/\v11 = .int .i64 0/\v12 = .slice none 0 0/\Y=Y2)
 case first =>
  go_wp2
  go_meet
  exact ⟨rfl,rfl,rfl,rfl,rfl,rfl,rfl,rfl,rfl⟩
 case rest =>
  obtain ⟨rfl,rfl,rfl,rfl,rfl,rfl,rfl,rfl,rfl⟩:=hcut
  have hcl0:=HFT.out.clock
  obtain ⟨c0,c1'⟩:=hcl0
  go_upto_block 0 with fail
  go_cut [2,3,4,9,10,11,12] (fun v2 v3 v4 v9 v10 v11 v12 Y=>v2 = .int .i64 a/\v3 = .int .i64 b/\v4=pt w.heap.size 0/\v9=pt w5.heap.size 0/\v10=pt (w5.heap.size+1) 0/\v11 = .int .i64 0/\InpAt Y.heap.size Y v12 (rest l (M.clock+a) l.length)/\PA w M S (.slice av l.length cv) l w5 X F.S (.slice p1 k.ln.length c1) (.slice p2 k.sm.length c2) (.slice p3 k.s.l.length c3) k Y)
  case first =>
   go_wp2_with fail
   go_loopw [12,68] (fun s i wr=>∃ j:Nat,j<=l.length/\i = .int .i64 j/\wr.ownsRow wc.heap.size 54 3 s (rest l (M.clock+a) j).length (incs (rest l (M.clock+a) j))/\Below wc.heap.size wc wr) (fun _ i _=>l.length - (intOf i).toNat)
   case atStart=>exact ⟨0,Nat.zero_le _,rfl,⟨rfl,Or.inl ⟨rfl,rfl⟩⟩,st0 _⟩
   case round =>
    obtain ⟨j,hj,rfl,hown,hb⟩:=hrel
    have HO:=hid hown
    have HBl:=hid hb
    have hP:=HPA.out.kept hb
    have HP:=hid hP
    by_cases hlt:j < l.length
    ·obtain ⟨x,hx⟩:∃ x,l[j]? = some x:=⟨_,List.getElem?_eq_getElem hlt⟩
     obtain ⟨g,o,k',ev,gz,x0,x1,x2⟩:=hP.inp.at' hx
     cases ev
     have x72:=hP.m.at 72 (.int .i64 M.clock) rfl
     have xz:=hP.m.z
     have hjl:(j:Int) < l.length:=by omega
     have hj0:(0:Int)<=j:=by omega
     have hj40:(l.length:Int)<=40:=by have:=H40.out;omega
     have HRS:=hid (rest_succ (c:=M.clock+a) hx)
     have rb:=run_binp x
     clear hP hown hb hx
     by_cases hcx:M.clock+a<=x.c
     ·have hdx:decide (M.clock+(a:Int)<=x.c)=true:=decide_eq_true hcx
      have HCX:=hid hcx
      clear hcx
      go_wp2_with (at_builtin;refine wpList_appRow Tryz.underlying42 info_inp rfl (by omega) (by omega) (by rfl) _ _ (by rfl) (by rfl) (rw_kept HO.out (stA (stA (st0 wr) _) _)) _ (by rfl) (new_inp _ x _ (b:=wr.heap.size+1) (by simp)) (inp_one x) (by have:=rest_len l (M.clock+a) j;have:=H40.out;omega) (Nat.le_trans HBl.out.size (stA (stA (st0 wr) _) _).size) ?_;intro v' w' hown' hb')
      refine ⟨⟨j+1,by omega,by simp,?_,(stA (stA HBl.out _) _).trans hb'⟩,by simp [intOf];omega⟩
      rw [HRS.out,if_pos HCX.out,List.length_append,incs_app]
      exact hown'
     ·have hdx:decide (M.clock+(a:Int)<=x.c)=false:=decide_eq_false hcx
      have HCX:=hid hcx
      clear hcx
      go_wp2
      refine ⟨⟨j+1,by omega,by simp,?_,stA HBl.out _⟩,by simp [intOf];omega⟩
      rw [HRS.out,if_neg HCX.out,List.append_nil]
      exact rw_kept HO.out (stA (st0 wr) _)
    ·have hj2:j=l.length:=by omega
     subst hj2
     have hnl:¬ (l.length:Int) < l.length:=by omega
     clear hP hown hb
     go_wp2
     go_meet
     exact ⟨rfl,rfl,rfl,rfl,rfl,rfl,own_inp HO.out,HP.out⟩
  case rest =>
   obtain ⟨rfl,rfl,rfl,rfl,rfl,rfl,hinp,hpa⟩:=hcut
   have HPB:=hid hpa
   have hTT:=HT.out
   have hXc:X.clock=M.clock+a:=by rw [HXE.out];exact hTT.clock
   have hXf:X.b.f<=20000:=by rw [HXE.out];exact hTT.fit2
   have hrc:chkIn (rest l (M.clock+a) l.length) X.clock=0:=by rw [rest_all,hXc];exact chk_rest HC.out (by omega)
   have hrd:∀ x ∈ rest l (M.clock+a) l.length,0<=x.d/\x.d<=255:=fun x hx=>by rw [rest_all] at hx;exact HDN.out x (List.mem_filter.1 hx).1
   have HRU:=hid (Lk.run_ok X F.S u12 (rest l (M.clock+a) l.length) b wc hpa.sx (HF.out.kept hpa.low).shapes hinp hrd HFX.out hXf hrc ⟨by have:=HAB.out;omega,by rw [hXc];have:=HCL.out;omega⟩)
   have e2:=hTT.e2
   rw [<- HXE.out] at e2
   rw [<- e2] at HRU
   clear hinp hpa hTT hXc hXf hrc hrd e2 HPA
   go_upto_region 12 with (first
    | (refine wpList_load_mid rfl 41 _ rfl w5.heap.size 0 rfl (machL X F.S) _ HPB.out.r.x.c Tryz.underlying41 rfl info_mach ?_)
    | (go_at_call 10;refine HRU.out.mono ?_;rintro e w7 ⟨bF,bN,vln,vsm,vw,rfl,hTd,_,_,_,hb7⟩
       obtain ⟨q1,q4,e1⟩:=row_len hTd.ln
       obtain ⟨q2,q5,e2⟩:=row_len hTd.sm
       obtain ⟨q3,q6,e3⟩:=row_len hTd.ws
       subst e1 e2 e3
       have HbT:=hid hTd
       have HbL:=hid hb7
       obtain ⟨bX,hX⟩:∃ X,X=k2.s.M:=⟨_,rfl⟩
       have HbE:=hid hX
       have HbS:Hid (SlAt w7 bF.S bX):=hid (by rw [hX];exact hTd.sl)
       rw [<- hX]
       clear hTd hb7 hX)
    | (refine wpList_store_mid rfl 41 _ _ rfl w7.heap.size 0 (machL bX bF.S).toArray rfl rfl (R3.th1 w7) info_mach (machL_one _ _ (isSl_of HbS.out)) ?_
       refine Pl.cutL (R3 w7 bX bF.S nil3) (R3.mk1 w7 bX bF.S) ?_
       intro Y1 hY1
       have HbY:=hid hY1
       clear hY1)
    | (refine wpList_store_mid rfl 50 _ _ rfl (w7.heap.size+1) 0 #[.slice q1 k2.ln.length q4,.slice q2 k2.sm.length q5,.slice q3 k2.s.l.length q6] rfl rfl (HbY.out.s.there 0 3 (by simp)) info_shown (one3 _ _ _ _ _ _ _ _ _) ?_
       refine Pl.cutL (R3 w7 bX bF.S [.slice q1 k2.ln.length q4,.slice q2 k2.sm.length q5,.slice q3 k2.s.l.length q6]) HbY.out.put ?_
       intro bZ hY2
       have HbZ:=hid hY2
       clear hY2))
   have hb7:=stp HbL.out HbZ.out.old
   have hpb:PA w M S (.slice av l.length cv) l w5 X F.S (.slice p1 k.ln.length c1) (.slice p2 k.sm.length c2) (.slice p3 k.s.l.length c3) k bZ:=HPB.out.kept hb7
   have hpc:PB w7 bX bF.S (.slice q1 k2.ln.length q4) (.slice q2 k2.sm.length q5) (.slice q3 k2.s.l.length q6) k2 bZ:=⟨HbZ.out,HbS.out.kept HbZ.out.old,(told_sh HbT.out).kept HbZ.out.old⟩
   have HQ:=hid hpb
   have HQ2:=hid hpc
   clear hb7 hpb hpc HPB HbY HbZ HbL HbS HRU
   have HR3:=hid (Lk.run_ok M S (.slice av l.length cv) l (a+b) bZ HQ.out.sm (HF.out.kept HQ.out.low).shapes HQ.out.inp HDN.out HFT.out H20.out HC.out ⟨HAB.out,by have:=HCL.out;push_cast;omega⟩)
   have e3:=HT.out.e3
   rw [<- e3] at HR3
   have ec:((a+b:Nat):Int)=(a:Int)+b:=by push_cast;rfl
   rw [ec] at HR3
   clear e3 ec
   go_cut [10,11,15,16,17,18,19,20] (fun v10 v11 v15 v16 v17 v18 v19 v20 Y=>v10=pt (w5.heap.size+1) 0/\v11 = .int .i64 0/\v15=pt w7.heap.size 0/\v16=pt (w7.heap.size+1) 0/\v17 = .int .i64 0/\v20 = .int .i64 0/\PA w M S (.slice av l.length cv) l w5 X F.S (.slice p1 k.ln.length c1) (.slice p2 k.sm.length c2) (.slice p3 k.s.l.length c3) k Y/\PB w7 bX bF.S (.slice q1 k2.ln.length q4) (.slice q2 k2.sm.length q5) (.slice q3 k2.s.l.length q6) k2 Y /\ ∃ (w8:World) (cX:Mach) (cS:Sl) (t1 t2 t3:Option Addr) (t4 t5 t6:Nat),v18=pt w8.heap.size 0/\v19=pt (w8.heap.size+1) 0/\cX=k3.s.M/\PB w8 cX cS (.slice t1 k3.ln.length t4) (.slice t2 k3.sm.length t5) (.slice t3 k3.s.l.length t6) k3 Y)
   case first =>
    go_wp2_with (first
     | (refine wpList_load_mid rfl 41 _ rfl w.heap.size 0 rfl (machL M S) _ HQ.out.m.c Tryz.underlying41 rfl info_mach ?_)
     | (go_at_call 10;refine HR3.out.mono ?_;rintro e w8 ⟨cF,cN,vln,vsm,vw,rfl,hTd,_,_,_,hb7⟩
        obtain ⟨t1,t4,e1⟩:=row_len hTd.ln
        obtain ⟨t2,t5,e2⟩:=row_len hTd.sm
        obtain ⟨t3,t6,e3⟩:=row_len hTd.ws
        subst e1 e2 e3
        have HcT:=hid hTd
        have HcL:=hid hb7
        obtain ⟨cX,hX⟩:∃ X,X=k3.s.M:=⟨_,rfl⟩
        have HcE:=hid hX
        have HcS:Hid (SlAt w8 cF.S cX):=hid (by rw [hX];exact hTd.sl)
        rw [<- hX]
        clear hTd hb7 hX)
     | (refine wpList_store_mid rfl 41 _ _ rfl w8.heap.size 0 (machL cX cF.S).toArray rfl rfl (R3.th1 w8) info_mach (machL_one _ _ (isSl_of HcS.out)) ?_
        refine Pl.cutL (R3 w8 cX cF.S nil3) (R3.mk1 w8 cX cF.S) ?_
        intro Y1 hY1
        have HcY:=hid hY1
        clear hY1)
     | (refine wpList_store_mid rfl 50 _ _ rfl (w8.heap.size+1) 0 #[.slice t1 k3.ln.length t4,.slice t2 k3.sm.length t5,.slice t3 k3.s.l.length t6] rfl rfl (HcY.out.s.there 0 3 (by simp)) info_shown (one3 _ _ _ _ _ _ _ _ _) ?_
        refine Pl.cutL (R3 w8 cX cF.S [.slice t1 k3.ln.length t4,.slice t2 k3.sm.length t5,.slice t3 k3.s.l.length t6]) HcY.out.put ?_
        intro cZ hY2
        have HcZ:=hid hY2
        clear hY2))
    go_meet
    have hb8:=stp HcL.out HcZ.out.old
    exact ⟨rfl,rfl,rfl,rfl,rfl,rfl,HQ.out.kept hb8,HQ2.out.kept hb8,w8,cX,cF.S,t1,t2,t3,t4,t5,t6,rfl,rfl,HcE.out,⟨HcZ.out,HcS.out.kept HcZ.out.old,(told_sh HcT.out).kept HcZ.out.old⟩⟩
   case rest =>
    obtain ⟨rfl,rfl,rfl,rfl,rfl,rfl,hA,hB,w8,cX,cS,t1,t2,t3,t4,t5,t6,rfl,rfl,hcX,hC⟩:=hcut
    have hTT:=HT.out
    have hM3:cX=bX:=by rw [hcX,hTT.M3,HbE.out]
    subst hM3
    have HPa:=hid hA
    have HPb:=hid hB
    have HPc:=hid hC
    have z1:=hTT.z1
    have z2:=hTT.z2
    have z3:=hTT.z3
    have hab2:=HAB.out
    let D:Cat:=⟨w5.heap.size+1,w7.heap.size+1,p1,c1,p2,c2,p3,c3,q1,q4,q2,q5,q3,q6,k.ln,k.sm,k.s.l,k2.ln,k2.sm,k2.s.l⟩
    have hD:D.at wc:=⟨hA.r.s,hB.r.s,hA.sh,hB.sh,by show k.ln.length+k2.ln.length<=100000;omega,by show k.sm.length+k2.sm.length<=100000;omega,by show k.s.l.length+k2.s.l.length<=100000;omega⟩
    have HDD:=hid hD
    clear hA hB hC hD hcX HQ HQ2 HR3
    go_upto_region 13 with fail
    go_cut [11,15,17,18,19,20,21] (fun v11 v15 v17 v18 v19 v20 v21 Y=>v11 = .int .i64 0/\v15=pt w7.heap.size 0/\v17 = .int .i64 0/\v18=pt w8.heap.size 0/\v19=pt (w8.heap.size+1) 0/\v20 = .int .i64 0/\Below wc.heap.size wc Y /\ ∃ g p q r,v21=pt g 0/\Bx Y g [p,q,r]/\Own3 wc.heap.size Y p q r (k.ln++k2.ln) (k.sm++k2.sm) (k.s.l++k2.s.l))
    case first =>
     refine cat_region D wc (fun d=>sv _ d) HDD.out rfl rfl rfl rfl (fun _ _ _=>rfl) (fun a' w' hE=>?_)
     obtain ⟨f,hf,rfl⟩:=act_open141 a' hE.sz hE.df
     have k11:=(hf 11).symm.trans (hE.keep 11 (by omega) (by omega))
     have k15:=(hf 15).symm.trans (hE.keep 15 (by omega) (by omega))
     have k17:=(hf 17).symm.trans (hE.keep 17 (by omega) (by omega))
     have k18:=(hf 18).symm.trans (hE.keep 18 (by omega) (by omega))
     have k19:=(hf 19).symm.trans (hE.keep 19 (by omega) (by omega))
     have k20:=(hf 20).symm.trans (hE.keep 20 (by omega) (by omega))
     obtain ⟨g,p,q,r,h21,hx,ho⟩:=hE.out
     have k21:=(hf 21).symm.trans h21
     have j0:f 0 = .agg (machL M S).toArray:=(hf 0).symm.trans (hE.keep 0 (by omega) (by omega))
     have j1:f 1 = .slice av l.length cv:=(hf 1).symm.trans (hE.keep 1 (by omega) (by omega))
     have j2:f 2 = .int .i64 a:=(hf 2).symm.trans (hE.keep 2 (by omega) (by omega))
     have j3:f 3 = .int .i64 b:=(hf 3).symm.trans (hE.keep 3 (by omega) (by omega))
     have j4:f 4=pt w.heap.size 0:=(hf 4).symm.trans (hE.keep 4 (by omega) (by omega))
     have j5:f 5=undef:=(hf 5).symm.trans (hE.keep 5 (by omega) (by omega))
     have j6:f 6=undef:=(hf 6).symm.trans (hE.keep 6 (by omega) (by omega))
     have j7:f 7=undef:=(hf 7).symm.trans (hE.keep 7 (by omega) (by omega))
     have j8:f 8 = .bool false:=(hf 8).symm.trans (hE.keep 8 (by omega) (by omega))
     have j9:f 9=pt w5.heap.size 0:=(hf 9).symm.trans (hE.keep 9 (by omega) (by omega))
     have j10:f 10=pt (w5.heap.size+1) 0:=(hf 10).symm.trans (hE.keep 10 (by omega) (by omega))
     have j12:f 12=u12:=(hf 12).symm.trans (hE.keep 12 (by omega) (by omega))
     have j13:f 13=undef:=(hf 13).symm.trans (hE.keep 13 (by omega) (by omega))
     have j14:f 14=u14:=(hf 14).symm.trans (hE.keep 14 (by omega) (by omega))
     have j16:f 16=pt (w7.heap.size+1) 0:=(hf 16).symm.trans (hE.keep 16 (by omega) (by omega))
     have j66:f 66 = .slice av l.length cv:=(hf 66).symm.trans (hE.keep 66 (by omega) (by omega))
     have j67:f 67 = .int .i64 l.length:=(hf 67).symm.trans (hE.keep 67 (by omega) (by omega))
     have j68:f 68=u68:=(hf 68).symm.trans (hE.keep 68 (by omega) (by omega))
     rename_i hM
     refine hM _ _ ?_
     rw [j0,j1,j2,j3,j4,j5,j6,j7,j8,j9,j10,j12,j13,j14,j16,j66,j67,j68]
     go_meet
     exact ⟨k11,k15,k17,k18,k19,k20,hE.low,g,p,q,r,k21,hx,ho⟩
    case rest =>
     obtain ⟨rfl,rfl,rfl,rfl,rfl,rfl,hb,g,p,q,r,rfl,hx,ho⟩:=hcut
     obtain ⟨pa,pn,pc,ep⟩:=row_slice ho.ln
     obtain ⟨qa,qn,qc,eq⟩:=row_slice ho.sm
     obtain ⟨ra,rn,rc,er⟩:=row_slice ho.ws
     subst ep eq er
     have hB:=HPb.out.kept hb
     have hC:=HPc.out.kept hb
     have HLw:=hid (stp HPa.out.low hb)
     have hsh1:ShAt wc (.slice pa pn pc) (.slice qa qn qc) (.slice ra rn rc) (k.ln++k2.ln) (k.sm++k2.sm) (k.s.l++k2.s.l):=⟨row_own ho.ln,slice_of_own ho.sm,row_own ho.ws⟩
     have hsh2:ShAt wc (.slice t1 k3.ln.length t4) (.slice t2 k3.sm.length t5) (.slice t3 k3.s.l.length t6) (k.ln++k2.ln) (k.sm++k2.sm) (k.s.l++k2.s.l):=by
      rw [<- hTT.ln,<- hTT.sm,<- hTT.ws]
      exact hC.sh
     have HS1:=hid hsh1
     have HS2:=hid hsh2
     have HX:=hid hx
     have HCs:=hid hC.r.s
     have HBb:=hid hB
     have HCc:=hid hC
     have hz1:(k.ln++k2.ln).length<=1000000:=by rw [List.length_append];omega
     have hz3:(k.s.l++k2.s.l).length<=1000000:=by rw [List.length_append];omega
     have HZ1:=hid hz1
     have HZ3:=hid hz3
     have e1:=hTT.ln
     have e2:=hTT.sm
     have e3:=hTT.ws
     clear hB hC hsh1 hsh2 hx ho hz1 hz3 hb HPb HPc HDD z1 z2 z3 hab2 hTT e1 e2 e3
     go_wp2_with (first
      | (refine Bu.loadG rfl 41 _ rfl w7.heap.size 0 rfl (machL cX bF.S) _ HBb.out.r.x.c Tryz.underlying41 rfl info_mach ?_)
      | (refine Bu.loadG rfl 41 _ rfl w8.heap.size 0 rfl (machL cX cS) _ HCc.out.r.x.c Tryz.underlying41 rfl info_mach ?_)
      | (go_at_call 14;refine (Bu.same_any cX bF.S cS _ HBb.out.sx HCc.out.sx).mono ?_;rintro e w9 ⟨rfl,hb9⟩;have HL9:=hid (stp HLw.out hb9);have hx9:=HX.out.kept hb9;have hc9:=HCs.out.kept hb9;have g0:=hx9.at 0 _ rfl;have g1:=hx9.at 1 _ rfl;have g2:=hx9.at 2 _ rfl;have gz:=hx9.z;have s0:=hc9.at 0 _ rfl;have s1:=hc9.at 1 _ rfl;have s2:=hc9.at 2 _ rfl;have sz:=hc9.z;have HB9:=hid hb9;clear hx9 hc9 hb9)
      | (go_at_call 15;refine (Lk.sameShown (.slice pa pn pc) (.slice qa qn qc) (.slice ra rn rc) (.slice t1 k3.ln.length t4) (.slice t2 k3.sm.length t5) (.slice t3 k3.s.l.length t6) (k.ln++k2.ln) (k.sm++k2.sm) (k.s.l++k2.s.l) _ (HS1.out.kept HB9.out) (HS2.out.kept HB9.out) HZ1.out HZ3.out).mono ?_;rintro e w10 ⟨rfl,hb10⟩;have HL10:=hid (stp HL9.out hb10)))
     go_ret
     exact ⟨rfl,HL10.out⟩
theorem runErr_inv {M:Mach} {l:List Inp} {n:Int} (h:runErr M l n=0):M.chk=0/\chkIn l M.clock=0/\0<=n/\n<=20000/\M.clock+n<=200000:=by
 unfold runErr at h
 split at h
 ·rename_i h1
  split at h
  ·rename_i h2
   split at h
   ·rename_i h3
    exact ⟨h1,h2,h3⟩
   ·cases h
  ·rename_i h2
   exact absurd h h2
 ·rename_i h1
  exact absurd h h1
theorem lockParts_walk:LockPartsWalk:=by
 intro H enc W base v0 v1 v2 v3 d0 d1 d2 d3 p0 p1 p2 p3 hF k0 t0 k1 t1 k2 t2 k3 t3
 obtain ⟨M,S,rfl,hok,hs,hz⟩:=open_mach k0 t0
 obtain ⟨l,hin,hll,hlf⟩:=open_inputs k1 t1
 obtain ⟨a,rfl,_,_,wa⟩:=open_int Tryz.underlying3 k2 t2
 obtain ⟨b,rfl,_,_,wb⟩:=open_int Tryz.underlying3 k3 t3
 have ha:=bounds_i64 wa
 have hb:=bounds_i64 wb
 by_cases hr:runErr M l a=0
 ·obtain ⟨hc,hci,a0,a1,a2⟩:=runErr_inv hr
  by_cases h0:b < 0
  ·exact Lk.parts_2 M S v1 l a b W hF hs hok hin ha hb hr h0
  ·by_cases h1:20000 - a < b
   ·exact Lk.parts_3 M S v1 l a b W hF hs hok hin ha hb hr ⟨a0,a1⟩ h0 h1
   ·by_cases h2:runErr M l (a+b)=0
    ·by_cases h3:19000 < M.b.f
     ·exact Lk.parts_5 M S v1 l a b W hF hs hok hin ha hb hr ⟨a0,a1⟩ h0 h1 h2 h3
     ·obtain ⟨_,_,_,_,b2⟩:=runErr_inv h2
      obtain ⟨A,rfl⟩:=Int.eq_ofNat_of_zero_le a0
      obtain ⟨B,rfl⟩:=Int.eq_ofNat_of_zero_le (Int.not_lt.1 h0)
      exact Lk.parts_ok M S v1 l A B W hF hs hok hin (fun x hx=>(hlf x hx).d) hr h2 h3 (chk_fit hok hc) hci (by omega) (by omega)
    ·exact Lk.parts_4 M S v1 l a b W hF hs hok hin ha hb hr ⟨a0,a1⟩ h0 h1 h2
 ·exact Lk.parts_1 M S v1 l a b W hF hs hok hin ha hb hr
theorem lockParts_holds:Rows.LockPartsCardSaid:=lockParts_card lockParts_walk
end Go.Proofs.YtbhpfkjfijdmaaaGreatDoor
