/-
  For every machine, anything that is pressed and every two numbers the law SaveGoesOn of the program returns true and leaves its arguments as they were; the listed library variables are as the tied card says.
-/
import Derived.Test.YtbennamieealbaaGreatDoorZg46
import Derived.Test.YtbennamieealbaaGreatDoorZg38
import Derived.Test.YtbennamieealbaaGreatDoorZg47
import Derived.Test.YtbennamieealbaaGreatDoorZg00
import Derived.Test.YtbennamieealbaaGreatDoorZg43
set_option linter.unusedVariables false
set_option maxRecDepth 100000
set_option maxHeartbeats 6400000
namespace Go.Proofs.YtbennamieealbaaGreatDoor
open Go.ChangeShapes Go.WideShapes Go.ChangeAt Go.RowKit
structure PG (w : World) (M : Mach) (S : Sl) (v : Value) (l : List Inp) (Y : World) : Prop where
 low:Below w.heap.size w Y
 m:Bx Y w.heap.size (machL M S)
 sm:SlAt Y S M
 inp:InpAt Y.heap.size Y v l
theorem PG.kept {w:World} {M:Mach} {S:Sl} {v:Value} {l:List Inp} {Y Y':World} (h:PG w M S v l Y) (hb:Below Y.heap.size Y Y'):PG w M S v l Y' :=
 ⟨stp h.low hb,h.m.kept hb,h.sm.kept hb,(h.inp.kept hb).mono hb.size⟩
theorem Ct.goes_ok (M:Mach) (S:Sl) (v:Value) (l:List Inp) (a b:Nat) (w:World) (hF:Shp w) (hs:SlAt w S M) (hok:M.ok) (hin:InpAt w.heap.size w v l) (hdn:∀ x∈l,0<=x.d/\x.d<=255) (hr:runErr M l a=0) (hr2:runErr M l ((a:Int)+b)=0) (h19:¬ 19000<M.b.f) (hf:M.fit) (hc:chkIn l M.clock=0) (hab:a+b<=20000) (hcl:M.clock+a+b<=200000) :
 Calls Tryz.prog 5 #[.agg (machL M S).toArray,v,.int .i64 a,.int .i64 b] w λe w'=>e = .returned (.bool true)/\Below w.heap.size w w':=by
 obtain ⟨k,k2,k3,hT⟩:=zpp M l a b hf (by omega) hc hab
 have HT:=hid hT
 have hfr:k.s.M.b.f<=19900:=zpq hf (by omega) (by omega) hT
 have HFR:=hid hfr
 clear hfr
 obtain ⟨av,cv,ev⟩:=hin.len
 subst ev
 have HF:=hid hF
 have hq:Below w.heap.size w (w.alloc (.cells (machL M S).toArray 41)):=stA (st0 w) _
 have HB:=hid (Bx.new w (machL M S) 41 (b:=w.heap.size) rfl)
 have HIN:=hid hin
 have HS:=hid hs
 have HOK:=hid hok
 have HRA:=hid hr
 have HRB:=hid hr2
 have HFT:=hid hf
 have HC:=hid hc
 have HDN:=hid hdn
 have HAB:=hid hab
 have H19:=hid h19
 have HCL:=hid hcl
 have H40:=hid (zdJ hc).1
 have d1:decide ((b:Int)<0)=false:=decide_eq_false (by omega)
 have d2:decide (20000-(a:Int)<b)=false:=decide_eq_false (by omega)
 have hd:decide (19000<M.b.f)=false:=decide_eq_false h19
 have h20:M.b.f<=20000:=by omega
 have H20:=hid h20
 have a0:(0:Int)<=a:=by omega
 have a1:(a:Int)<=20000:=by omega
 have b0:(0:Int)<=b:=by omega
 have b1:(b:Int)<=20000:=by omega
 clear hT hF hs hok hin hr hr2 hf hc hdn hab hcl h19 h20
 go_enter Tryz.func5,Tryz.ntmps5
 go_upto_region 3 with (first
  | (go_at_call 9;refine (zdD M S _ _).mono ?_;rw [hd];rintro e w4 ⟨rfl,hb4⟩;have HL4:=hid (stp HL3.out hb4);have HB4:=hid (HB3.out.kept hb4);clear hb4)
  | (refine Bu.loadG rfl 41 _ rfl w.heap.size 0 rfl (machL M S) _ HB3.out.c Tryz.underlying41 rfl zad ?_)
  | (go_at_call 14;refine (Lk.badRun M S _ l ((a:Int)+b) _ HS.out.lens HOK.out ((HIN.out.kept HL2.out).mono HL2.out.size) ⟨by omega,by omega⟩).mono ?_;rw [HRB.out];rintro e w3 ⟨rfl,hb3⟩;have HB3:=hid (HB2.out.kept hb3);have HL3:=hid (stp HL2.out hb3);clear hb3)
  | (refine Bu.loadG rfl 41 _ rfl w.heap.size 0 rfl (machL M S) _ HB2.out.c Tryz.underlying41 rfl zad ?_)
  | (go_at_call 14;refine (Lk.badRun M S _ l a _ HS.out.lens HOK.out ((HIN.out.kept HL1.out).mono HL1.out.size) ⟨by omega,by omega⟩).mono ?_;rw [HRA.out];rintro e w2 ⟨rfl,hb2⟩;have HB2:=hid (HB1.out.kept hb2);have HL2:=hid (stp HL1.out hb2);clear hb2)
  | (refine Bu.loadG rfl 41 _ rfl w.heap.size 0 rfl (machL M S) _ HB1.out.c Tryz.underlying41 rfl zad ?_)
  | (go_at_call 18;refine (Sv.saved _).mono ?_;rintro e w1 ⟨rfl,hb1⟩;have HB1:=hid (HB.out.kept hb1);have HL1:=hid (stp hq hb1);clear hb1))
 clear d1 d2 hd HRA HRB HB HB1 HB2 HB3 HL1 HL2 HL3 hq
 obtain ⟨X,hX⟩:∃ X,k.s.M=X:=⟨_,rfl⟩
 have HXX:=hid hX
 obtain ⟨bX,hbX⟩:∃ X,k2.s.M=X:=⟨_,rfl⟩
 have HXbX:=hid hbX
 have HXcX:Hid (k3.s.M=bX):=hid (by rw [HT.out.M3,hbX])
 have hpf:PG w M S (.slice av l.length cv) l w4:=⟨HL4.out,HB4.out,HS.out.kept HL4.out,(HIN.out.kept HL4.out).mono HL4.out.size⟩
 have HPF:=hid hpf
 have HR1:=hid (Ct.runs M S (.slice av l.length cv) l a w4 k hpf.sm (HF.out.kept hpf.low).shapes hpf.inp HDN.out HFT.out (by have:=H19.out;omega) HC.out ⟨by have:=HAB.out;omega,by have:=HCL.out;omega⟩ (by rw [HT.out.e1];exact ⟨rfl,rfl,rfl,rfl⟩))
 clear hpf hX hbX HL4 HB4 HS HIN
 go_cut [9,10,11] (λv9 v10 v11 Y=>v11 = .int .i64 0/\X.fit/\PG w M S (.slice av l.length cv) l Y /\ ∃ (w5:World) (S5:Sl) (p1 p2 p3:Option Addr) (c1 c2 c3:Nat),v9=pt w5.heap.size 0/\v10=pt (w5.heap.size+1) 0/\RX w5 X S5 (.slice p1 k.ln.length c1) (.slice p2 k.sm.length c2) (.slice p3 k.s.l.length c3) k Y)
 case first =>
  go_wp2_with (first
   | (refine wpList_load_mid rfl 41 _ rfl w.heap.size 0 rfl (machL M S) _ HPF.out.m.c Tryz.underlying41 rfl zad ?_)
   | (go_at_call 10;refine RunsTo.mono HR1.out ?_
      rintro e w5 ⟨F,p1,p2,p3,c1,c2,c3,rfl,hsl,hsh,hft,hbb⟩
      rw [HXX.out] at hsl hft ⊢
      have HFT0:=hid hft
      have HSL:=hid hsl
      have HSH:=hid hsh
      have HBB:=hid hbb
      clear hsl hsh hft hbb)
   | (refine wpList_store_mid rfl 41 _ _ rfl w5.heap.size 0 (machL X F.S).toArray rfl rfl (R3.th1 w5) zad (zaC _ _ (zfq HSL.out)) ?_
      refine Pl.cutL (R3 w5 X F.S nil3) (R3.mk1 w5 X F.S) ?_
      intro Y1 hY1
      have HY1:=hid hY1
      clear hY1)
   | (refine wpList_store_mid rfl 50 _ _ rfl (w5.heap.size+1) 0 #[.slice p1 k.ln.length c1,.slice p2 k.sm.length c2,.slice p3 k.s.l.length c3] rfl rfl (HY1.out.s.there 0 3 (by simp)) zaO (one3 _ _ _ _ _ _ _ _ _) ?_
      refine Pl.cutL (R3 w5 X F.S [.slice p1 k.ln.length c1,.slice p2 k.sm.length c2,.slice p3 k.s.l.length c3]) HY1.out.put ?_
      intro Y2 hY2
      have HY2:=hid hY2
      clear hY2))
  go_meet
  have hq:=stp HBB.out HY2.out.old
  exact ⟨rfl,HFT0.out,HPF.out.kept hq,w5,F.S,p1,p2,p3,c1,c2,c3,rfl,rfl,⟨HY2.out,HSL.out.kept HY2.out.old,HSH.out.kept HY2.out.old⟩⟩
 case rest =>
  obtain ⟨rfl,hfx,hpf,w5,S5,p1,p2,p3,c1,c2,c3,rfl,rfl,h5⟩:=hcut
  have HPF:=hid hpf
  have H5:=hid h5
  have HFX:=hid hfx
  have hok5:X.ok:={ hfx with main:=hfx.main }
  have hck5:X.chk=0:=zgl hfx (by rw [<- HXX.out];have:=HFR.out;omega)
  have HSB:=hid (zdn X S5 wc h5.sx hok5 hck5)
  have HOF:=hid (λv w' (hv:sliceAt w' v (enc X))=>zfO v X w' hv hok5 hck5)
  clear hpf h5 hfx hok5 hck5 HR1
  go_upto_region 5 with (first
   | (refine wpList_load_mid rfl 41 _ rfl w5.heap.size 0 rfl (machL X S5) _ H5.out.r.x.c Tryz.underlying41 rfl zad ?_)
   | (go_at_call 19;refine HSB.out.mono ?_;rintro e wb ⟨bv,rfl,hown,hbb⟩;have HOWN:=hid (zaL hown);have HBB:=hid hbb;clear hown hbb))
  go_cut [14,15] (λv14 v15 Y=>v15 = .int .i64 0/\PG w M S (.slice av l.length cv) l Y/\RX w5 X S5 (.slice p1 k.ln.length c1) (.slice p2 k.sm.length c2) (.slice p3 k.s.l.length c3) k Y /\ ∃ (w6:World) (S6:Sl),v14=pt w6.heap.size 0/\Bx Y w6.heap.size (machL X S6)/\SlAt Y S6 X)
  case first =>
   go_wp2_with (first
    | (go_at_call 20;refine (HOF.out _ _ HOWN.out).mono ?_;rintro e w6 ⟨S6,rfl,hsl,hb6⟩;have HSL:=hid (hsl.at);have HB6:=hid hb6;clear hsl hb6)
    | (refine wpList_store_mid rfl 41 _ _ rfl w6.heap.size 0 (machL X S6).toArray rfl rfl (MS.th w6 _) zad (zaC _ _ (zfq HSL.out)) ?_
       refine Pl.cutL (λZ=>Below w6.heap.size w6 Z/\MS wc w6.heap.size X S6 Z) (MS.mk0 (stp HBB.out HB6.out) HSL.out _) ?_
       rintro Z ⟨hZ0,hZ⟩
       have HZ:=hid hZ
       clear hZ hZ0))
   go_meet
   exact ⟨rfl,HPF.out.kept HZ.out.low,H5.out.kept HZ.out.low,w6,S6,rfl,HZ.out.bx,HZ.out.sl⟩
  case rest =>
   obtain ⟨rfl,hpf,h5,w6,S6,rfl,hy,hys⟩:=hcut
   have HPF:=hid hpf
   have H5:=hid h5
   have HY6:=hid hy
   have HYS:=hid hys
   clear hpf h5 hy hys HSB HOF
   go_upto_region 8 with fail
   go_cut [1,2,3,4,9,10,11,13,14,15,16] (λv1 v2 v3 v4 v9 v10 v11 v13 v14 v15 v16 Y=>v1 = .slice av l.length cv/\v2 = .int .i64 a/\v3 = .int .i64 b/\v4=pt w.heap.size 0/\v9=pt w5.heap.size 0/\v10=pt (w5.heap.size+1) 0/\v11 = .int .i64 0/\v13 = .int .i64 0/\v14=pt w6.heap.size 0/\v15 = .int .i64 0/\v16 = .slice none 0 0/\Y=wc)
   case first =>
    go_wp2
    go_meet
    exact ⟨rfl,rfl,rfl,rfl,rfl,rfl,rfl,rfl,rfl,rfl,rfl,rfl⟩
   case rest =>
    obtain ⟨rfl,rfl,rfl,rfl,rfl,rfl,rfl,rfl,rfl,rfl,rfl,rfl⟩:=hcut
    have hcl0:=HFT.out.clock
    obtain ⟨c0,c1'⟩:=hcl0
    go_upto_block 0 with fail
    go_cut [2,3,4,9,10,11,13,14,15,16] (λv2 v3 v4 v9 v10 v11 v13 v14 v15 v16 Y=>v2 = .int .i64 a/\v3 = .int .i64 b/\v4=pt w.heap.size 0/\v9=pt w5.heap.size 0/\v10=pt (w5.heap.size+1) 0/\v11 = .int .i64 0/\v13 = .int .i64 0/\v14=pt w6.heap.size 0/\v15 = .int .i64 0/\InpAt Y.heap.size Y v16 (rest l (M.clock+a) l.length)/\PG w M S (.slice av l.length cv) l Y/\RX w5 X S5 (.slice p1 k.ln.length c1) (.slice p2 k.sm.length c2) (.slice p3 k.s.l.length c3) k Y/\Bx Y w6.heap.size (machL X S6)/\SlAt Y S6 X)
    case first =>
     go_wp2_with fail
     go_loopw [16,90] (λs i wr=>∃ j:Nat,j<=l.length/\i = .int .i64 j/\wr.ownsRow wc.heap.size 58 3 s (rest l (M.clock+a) j).length (incs (rest l (M.clock+a) j))/\Below wc.heap.size wc wr) (λ_ i _=>l.length-(intOf i).toNat)
     case atStart=>exact ⟨0,Nat.zero_le _,rfl,⟨rfl,Or.inl ⟨rfl,rfl⟩⟩,st0 _⟩
     case round =>
      obtain ⟨j,hj,rfl,hown,hb⟩:=hrel
      have HO:=hid hown
      have HBl:=hid hb
      have hP:=HPF.out.kept hb
      have HP:=hid hP
      by_cases hlt:j<l.length
      ·obtain ⟨x,hx⟩:∃ x,l[j]? = some x:=⟨_,List.getElem?_eq_getElem hlt⟩
       obtain ⟨g,o,k',ev,gz,x0,x1,x2⟩:=hP.inp.at' hx
       cases ev
       have x72:=hP.m.at 72 (.int .i64 M.clock) rfl
       have xz:=hP.m.z
       have hjl:(j:Int)<l.length:=by omega
       have hj0:(0:Int)<=j:=by omega
       have hj40:(l.length:Int)<=40:=by have:=H40.out;omega
       have HRS:=hid (zkI (c:=M.clock+a) hx)
       have rb:=zmp x
       clear hP hown hb hx
       by_cases hcx:M.clock+a<=x.c
       ·have hdx:decide (M.clock+(a:Int)<=x.c)=true:=decide_eq_true hcx
        have HCX:=hid hcx
        clear hcx
        go_wp2_with (at_builtin;refine zaN Tryz.underlying42 zmo rfl (by omega) (by omega) (by rfl) _ _ (by rfl) (by rfl) (zbP HO.out (stA (stA (st0 wr) _) _)) _ (by rfl) (zn2 _ x _ (b:=wr.heap.size+1) (by simp)) (zn3 x) (by have:=zmr l (M.clock+a) j;have:=H40.out;omega) (Nat.le_trans HBl.out.size (stA (stA (st0 wr) _) _).size) ?_;intro v' w' hown' hb')
        refine ⟨⟨j+1,by omega,by simp,?_,(stA (stA HBl.out _) _).trans hb'⟩,by simp [intOf];omega⟩
        rw [HRS.out,if_pos HCX.out,List.length_append,zhf]
        exact hown'
       ·have hdx:decide (M.clock+(a:Int)<=x.c)=false:=decide_eq_false hcx
        have HCX:=hid hcx
        clear hcx
        go_wp2
        refine ⟨⟨j+1,by omega,by simp,?_,stA HBl.out _⟩,by simp [intOf];omega⟩
        rw [HRS.out,if_neg HCX.out,List.append_nil]
        exact zbP HO.out (stA (st0 wr) _)
      ·have hj2:j=l.length:=by omega
       subst hj2
       have hnl:¬ (l.length:Int)<l.length:=by omega
       clear hP hown hb
       go_wp2
       go_meet
       exact ⟨rfl,rfl,rfl,rfl,rfl,rfl,rfl,rfl,rfl,zn1 HO.out,HP.out,H5.out.kept HBl.out,HY6.out.kept HBl.out,HYS.out.kept HBl.out⟩
    case rest =>
     obtain ⟨rfl,rfl,rfl,rfl,rfl,rfl,rfl,rfl,rfl,hri,hpf,h5,hy,hys⟩:=hcut
     have HPF:=hid hpf
     have H5:=hid h5
     have HY6:=hid hy
     have HYS:=hid hys
     have hTT:=HT.out
     have hXc:X.clock=M.clock+a:=by rw [<- HXX.out];exact hTT.clock
     have hrc:chkIn (rest l (M.clock+a) l.length) X.clock=0:=by rw [zbh,hXc];exact zmq HC.out (by omega)
     have HR3:=hid (Ct.runs X S6 u16 (rest l (M.clock+a) l.length) b wc k2 hys (HF.out.kept hpf.low).shapes hri (λx hx=>by rw [zbh] at hx;exact HDN.out x (List.mem_filter.1 hx).1) HFX.out (by rw [<- HXX.out];exact HFR.out) hrc ⟨by have:=HAB.out;omega,by rw [hXc];have:=HCL.out;omega⟩ (by rw [hTT.e2,HXX.out];exact ⟨rfl,rfl,rfl,rfl⟩))
     clear hpf h5 hy hys hri hTT hXc hrc
     go_upto_region 15 with fail
     go_cut [19,20,11] (λv19 v20 v11 Y=>v11 = .int .i64 0/\bX.fit/\PG w M S (.slice av l.length cv) l Y/\RX w5 X S5 (.slice p1 k.ln.length c1) (.slice p2 k.sm.length c2) (.slice p3 k.s.l.length c3) k Y /\ ∃ (w7:World) (S7:Sl) (q1 q2 q3:Option Addr) (q4 q5 q6:Nat),v19=pt w7.heap.size 0/\v20=pt (w7.heap.size+1) 0/\RX w7 bX S7 (.slice q1 k2.ln.length q4) (.slice q2 k2.sm.length q5) (.slice q3 k2.s.l.length q6) k2 Y)
     case first =>
      go_wp2_with (first
       | (refine wpList_load_mid rfl 41 _ rfl w6.heap.size 0 rfl (machL X S6) _ HY6.out.c Tryz.underlying41 rfl zad ?_)
       | (go_at_call 10;refine RunsTo.mono HR3.out ?_
          rintro e w7 ⟨F,q1,q2,q3,q4,q5,q6,rfl,hsl,hsh,hft,hbb⟩
          rw [HXbX.out] at hsl hft ⊢
          have HFT0:=hid hft
          have HSL:=hid hsl
          have HSH:=hid hsh
          have HBB:=hid hbb
          clear hsl hsh hft hbb)
       | (refine wpList_store_mid rfl 41 _ _ rfl w7.heap.size 0 (machL bX F.S).toArray rfl rfl (R3.th1 w7) zad (zaC _ _ (zfq HSL.out)) ?_
          refine Pl.cutL (R3 w7 bX F.S nil3) (R3.mk1 w7 bX F.S) ?_
          intro Y1 hY1
          have HY1:=hid hY1
          clear hY1)
       | (refine wpList_store_mid rfl 50 _ _ rfl (w7.heap.size+1) 0 #[.slice q1 k2.ln.length q4,.slice q2 k2.sm.length q5,.slice q3 k2.s.l.length q6] rfl rfl (HY1.out.s.there 0 3 (by simp)) zaO (one3 _ _ _ _ _ _ _ _ _) ?_
          refine Pl.cutL (R3 w7 bX F.S [.slice q1 k2.ln.length q4,.slice q2 k2.sm.length q5,.slice q3 k2.s.l.length q6]) HY1.out.put ?_
          intro Y2 hY2
          have HY2:=hid hY2
          clear hY2))
      go_meet
      have hq:=stp HBB.out HY2.out.old
      exact ⟨rfl,HFT0.out,HPF.out.kept hq,H5.out.kept hq,w7,F.S,q1,q2,q3,q4,q5,q6,rfl,rfl,⟨HY2.out,HSL.out.kept HY2.out.old,HSH.out.kept HY2.out.old⟩⟩
     case rest =>
      obtain ⟨rfl,_,hpf,h5,w7,S7,q1,q2,q3,q4,q5,q6,rfl,rfl,h7⟩:=hcut
      have HPF:=hid hpf
      have H5:=hid h5
      have H7:=hid h7
      have hr4:=Ct.runs M S (.slice av l.length cv) l (a+b) wc k3 hpf.sm (HF.out.kept hpf.low).shapes hpf.inp HDN.out HFT.out (by have:=H19.out;omega) HC.out ⟨HAB.out,by have:=HCL.out;push_cast;omega⟩ (by rw [HT.out.e3];exact ⟨rfl,rfl,rfl,rfl⟩)
      have ec:((a+b:Nat):Int)=(a:Int)+b:=by push_cast;rfl
      rw [ec] at hr4
      have HR4:=hid hr4
      clear hpf h5 h7 HR3 hr4 ec HY6 HYS
      go_upto_region 16 with fail
      go_cut [21,22,13] (λv21 v22 v13 Y=>v13 = .int .i64 0/\bX.fit/\PG w M S (.slice av l.length cv) l Y/\RX w5 X S5 (.slice p1 k.ln.length c1) (.slice p2 k.sm.length c2) (.slice p3 k.s.l.length c3) k Y/\RX w7 bX S7 (.slice q1 k2.ln.length q4) (.slice q2 k2.sm.length q5) (.slice q3 k2.s.l.length q6) k2 Y /\ ∃ (w8:World) (S8:Sl) (t1 t2 t3:Option Addr) (t4 t5 t6:Nat),v21=pt w8.heap.size 0/\v22=pt (w8.heap.size+1) 0/\RX w8 bX S8 (.slice t1 k3.ln.length t4) (.slice t2 k3.sm.length t5) (.slice t3 k3.s.l.length t6) k3 Y)
      case first =>
       go_wp2_with (first
        | (refine wpList_load_mid rfl 41 _ rfl w.heap.size 0 rfl (machL M S) _ HPF.out.m.c Tryz.underlying41 rfl zad ?_)
        | (go_at_call 10;refine RunsTo.mono HR4.out ?_
           rintro e w8 ⟨F,t1,t2,t3,t4,t5,t6,rfl,hsl,hsh,hft,hbb⟩
           rw [HXcX.out] at hsl hft ⊢
           have HFT0:=hid hft
           have HSL:=hid hsl
           have HSH:=hid hsh
           have HBB:=hid hbb
           clear hsl hsh hft hbb)
        | (refine wpList_store_mid rfl 41 _ _ rfl w8.heap.size 0 (machL bX F.S).toArray rfl rfl (R3.th1 w8) zad (zaC _ _ (zfq HSL.out)) ?_
           refine Pl.cutL (R3 w8 bX F.S nil3) (R3.mk1 w8 bX F.S) ?_
           intro Y1 hY1
           have HY1:=hid hY1
           clear hY1)
        | (refine wpList_store_mid rfl 50 _ _ rfl (w8.heap.size+1) 0 #[.slice t1 k3.ln.length t4,.slice t2 k3.sm.length t5,.slice t3 k3.s.l.length t6] rfl rfl (HY1.out.s.there 0 3 (by simp)) zaO (one3 _ _ _ _ _ _ _ _ _) ?_
           refine Pl.cutL (R3 w8 bX F.S [.slice t1 k3.ln.length t4,.slice t2 k3.sm.length t5,.slice t3 k3.s.l.length t6]) HY1.out.put ?_
           intro Y2 hY2
           have HY2:=hid hY2
           clear hY2))
       go_meet
       have hq:=stp HBB.out HY2.out.old
       exact ⟨rfl,HFT0.out,HPF.out.kept hq,H5.out.kept hq,H7.out.kept hq,w8,F.S,t1,t2,t3,t4,t5,t6,rfl,rfl,⟨HY2.out,HSL.out.kept HY2.out.old,HSH.out.kept HY2.out.old⟩⟩
      case rest =>
       obtain ⟨rfl,_,hpf,h5,h7,w8,S8,t1,t2,t3,t4,t5,t6,rfl,rfl,h8⟩:=hcut
       have hTT:=HT.out
       have HPF:=hid hpf
       have H5:=hid h5
       have H7:=hid h7
       have H8:=hid h8
       have z1:=hTT.z1
       have z2:=hTT.z2
       have z3:=hTT.z3
       have hab2:=HAB.out
       let D:Cat:=⟨w5.heap.size+1,w7.heap.size+1,p1,c1,p2,c2,p3,c3,q1,q4,q2,q5,q3,q6,k.ln,k.sm,k.s.l,k2.ln,k2.sm,k2.s.l⟩
       have hD:D.at wc:=⟨h5.r.s,h7.r.s,h5.sh,h7.sh,by show k.ln.length+k2.ln.length<=100000;omega,by show k.sm.length+k2.sm.length<=100000;omega,by show k.s.l.length+k2.s.l.length<=100000;omega⟩
       have HDD:=hid hD
       clear hpf h5 h7 h8 hD HR4
       go_upto_region 17 with fail
       go_cut [11,13,19,21,22,23] (λv11 v13 v19 v21 v22 v23 Y=>v11 = .int .i64 0/\v13 = .int .i64 0/\v19=pt w7.heap.size 0/\v21=pt w8.heap.size 0/\v22=pt (w8.heap.size+1) 0/\Below wc.heap.size wc Y /\ ∃ g p q r,v23=pt g 0/\Bx Y g [p,q,r]/\Own3 wc.heap.size Y p q r (k.ln++k2.ln) (k.sm++k2.sm) (k.s.l++k2.s.l))
       case first =>
        refine Cx.cat_region D wc (λd=>sv _ d) HDD.out rfl rfl rfl rfl (λ_ _ _=>rfl) (λa' w' hE=>?_)
        obtain ⟨f,hf,rfl⟩:=Cx.act_open' a' hE.sz hE.df
        have k11:=(hf 11).symm.trans (hE.keep 11 (by omega) (by omega))
        have k13:=(hf 13).symm.trans (hE.keep 13 (by omega) (by omega))
        have k19:=(hf 19).symm.trans (hE.keep 19 (by omega) (by omega))
        have k21:=(hf 21).symm.trans (hE.keep 21 (by omega) (by omega))
        have k22:=(hf 22).symm.trans (hE.keep 22 (by omega) (by omega))
        obtain ⟨g,p,q,r,h21,hx,ho⟩:=hE.out
        have k23:=(hf 23).symm.trans h21
        have j0:f 0 = .agg (machL M S).toArray:=(hf 0).symm.trans (hE.keep 0 (by omega) (by omega))
        have j1:f 1 = .slice av l.length cv:=(hf 1).symm.trans (hE.keep 1 (by omega) (by omega))
        have j2:f 2 = .int .i64 a:=(hf 2).symm.trans (hE.keep 2 (by omega) (by omega))
        have j3:f 3 = .int .i64 b:=(hf 3).symm.trans (hE.keep 3 (by omega) (by omega))
        have j4:f 4=pt w.heap.size 0:=(hf 4).symm.trans (hE.keep 4 (by omega) (by omega))
        have j5:f 5=undef:=(hf 5).symm.trans (hE.keep 5 (by omega) (by omega))
        have j6:f 6=undef:=(hf 6).symm.trans (hE.keep 6 (by omega) (by omega))
        have j7:f 7=undef:=(hf 7).symm.trans (hE.keep 7 (by omega) (by omega))
        have j8:f 8 = .bool false:=(hf 8).symm.trans (hE.keep 8 (by omega) (by omega))
        have j9:f 9=pt w5.heap.size 0:=(hf 9).symm.trans (hE.keep 9 (by omega) (by omega))
        have j10:f 10=pt (w5.heap.size+1) 0:=(hf 10).symm.trans (hE.keep 10 (by omega) (by omega))
        have j12:f 12=bv:=(hf 12).symm.trans (hE.keep 12 (by omega) (by omega))
        have j14:f 14=pt w6.heap.size 0:=(hf 14).symm.trans (hE.keep 14 (by omega) (by omega))
        have j15:f 15 = .int .i64 0:=(hf 15).symm.trans (hE.keep 15 (by omega) (by omega))
        have j16:f 16=u16:=(hf 16).symm.trans (hE.keep 16 (by omega) (by omega))
        have j17:f 17=undef:=(hf 17).symm.trans (hE.keep 17 (by omega) (by omega))
        have j18:f 18=u18:=(hf 18).symm.trans (hE.keep 18 (by omega) (by omega))
        have j20:f 20=pt (w7.heap.size+1) 0:=(hf 20).symm.trans (hE.keep 20 (by omega) (by omega))
        have j88:f 88 = .slice av l.length cv:=(hf 88).symm.trans (hE.keep 88 (by omega) (by omega))
        have j89:f 89 = .int .i64 l.length:=(hf 89).symm.trans (hE.keep 89 (by omega) (by omega))
        have j90:f 90=u90:=(hf 90).symm.trans (hE.keep 90 (by omega) (by omega))
        rename_i hM
        refine hM _ _ ?_
        rw [j0,j1,j2,j3,j4,j5,j6,j7,j8,j9,j10,j12,j14,j15,j16,j17,j18,j20,j88,j89,j90]
        go_meet
        exact ⟨k11,k13,k19,k21,k22,hE.low,g,p,q,r,k23,hx,ho⟩
       case rest =>
        obtain ⟨rfl,rfl,rfl,rfl,rfl,hb,g,p,q,r,rfl,hx,ho⟩:=hcut
        obtain ⟨pa,pn,pc,ep⟩:=za5 ho.ln
        obtain ⟨qa,qn,qc,eq⟩:=za5 ho.sm
        obtain ⟨ra,rn,rc,er⟩:=za5 ho.ws
        subst ep eq er
        have HA7:=hid (H7.out.kept hb)
        have HA8:=hid (H8.out.kept hb)
        have HLw:=hid (stp HPF.out.low hb)
        have hsh1:ShAt wc (.slice pa pn pc) (.slice qa qn qc) (.slice ra rn rc) (k.ln++k2.ln) (k.sm++k2.sm) (k.s.l++k2.s.l):=⟨zfw ho.ln,zaL ho.sm,zfw ho.ws⟩
        have hsh2:ShAt wc (.slice t1 k3.ln.length t4) (.slice t2 k3.sm.length t5) (.slice t3 k3.s.l.length t6) (k.ln++k2.ln) (k.sm++k2.sm) (k.s.l++k2.s.l):=by
         rw [<- hTT.ln,<- hTT.sm,<- hTT.ws]
         exact HA8.out.sh
        have HS1:=hid hsh1
        have HS2:=hid hsh2
        have HX:=hid hx
        have HZ1:Hid ((k.ln++k2.ln).length<=1000000):=hid (by rw [List.length_append];omega)
        have HZ3:Hid ((k.s.l++k2.s.l).length<=1000000):=hid (by rw [List.length_append];omega)
        have e1:=hTT.ln
        have e2:=hTT.sm
        have e3:=hTT.ws
        clear hsh1 hsh2 hx ho hb H5 H7 H8 HDD z1 z2 z3 hab2 hTT e1 e2 e3 HPF
        go_wp2_with (first
         | (refine Bu.loadG rfl 41 _ rfl w7.heap.size 0 rfl (machL bX S7) _ HA7.out.r.x.c Tryz.underlying41 rfl zad ?_)
         | (refine Bu.loadG rfl 41 _ rfl w8.heap.size 0 rfl (machL bX S8) _ HA8.out.r.x.c Tryz.underlying41 rfl zad ?_)
         | (go_at_call 12;refine (zdm bX S7 S8 _ HA7.out.sx HA8.out.sx).mono ?_;rintro e w9 ⟨rfl,hb9⟩;have HL9:=hid (stp HLw.out hb9);have hx9:=HX.out.kept hb9;have hc9:=HA8.out.r.s.kept hb9;have g0:=hx9.at 0 _ rfl;have g1:=hx9.at 1 _ rfl;have g2:=hx9.at 2 _ rfl;have gz:=hx9.z;have s0:=hc9.at 0 _ rfl;have s1:=hc9.at 1 _ rfl;have s2:=hc9.at 2 _ rfl;have sz:=hc9.z;have HB9:=hid hb9;clear hx9 hc9 hb9)
         | (go_at_call 13;refine (Lk.sameShown (.slice pa pn pc) (.slice qa qn qc) (.slice ra rn rc) (.slice t1 k3.ln.length t4) (.slice t2 k3.sm.length t5) (.slice t3 k3.s.l.length t6) (k.ln++k2.ln) (k.sm++k2.sm) (k.s.l++k2.s.l) _ (HS1.out.kept HB9.out) (HS2.out.kept HB9.out) HZ1.out HZ3.out).mono ?_;rintro e w10 ⟨rfl,hb10⟩;have HL10:=hid (stp HL9.out hb10)))
        go_ret
        exact ⟨rfl,HL10.out⟩
theorem zdK {M:Mach} {l:List Inp} {n:Int} (h:runErr M l n=0):M.chk=0/\chkIn l M.clock=0/\0<=n/\n<=20000/\M.clock+n<=200000:=by
 unfold runErr at h
 split at h
 ·rename_i h1
  split at h
  ·rename_i h2
   split at h
   ·rename_i h3
    exact ⟨h1,h2,h3⟩
   ·cases h
  ·rename_i h2
   exact absurd h h2
 ·rename_i h1
  exact absurd h h1
theorem zdL:SaveGoesOnWalk:=by
 intro H enc W base v0 v1 v2 v3 d0 d1 d2 d3 p0 p1 p2 p3 hF k0 t0 k1 t1 k2 t2 k3 t3
 obtain ⟨M,S,rfl,hok,hs,hz⟩:=zkF k0 t0
 obtain ⟨l,hin,hll,hlf⟩:=zgK k1 t1
 obtain ⟨a,rfl,_,_,wa⟩:=open_int Tryz.underlying3 k2 t2
 obtain ⟨b,rfl,_,_,wb⟩:=open_int Tryz.underlying3 k3 t3
 have ha:=bounds_i64 wa
 have hb:=bounds_i64 wb
 by_cases hr:runErr M l a=0
 ·obtain ⟨hc,hci,a0,a1,a2⟩:=zdK hr
  by_cases h0:b<0
  ·exact Ct.goes_2 M S v1 l a b W ⟨hF⟩ hs hok hin ha hb hr h0
  ·by_cases h1:20000-a<b
   ·exact Ct.goes_3 M S v1 l a b W ⟨hF⟩ hs hok hin ha hb hr ⟨a0,a1⟩ h0 h1
   ·by_cases h2:runErr M l (a+b)=0
    ·by_cases h3:19000<M.b.f
     ·exact Ct.goes_5 M S v1 l a b W ⟨hF⟩ hs hok hin ha hb hr ⟨a0,a1⟩ h0 h1 h2 h3
     ·obtain ⟨_,_,_,_,b2⟩:=zdK h2
      obtain ⟨A,rfl⟩:=Int.eq_ofNat_of_zero_le a0
      obtain ⟨B,rfl⟩:=Int.eq_ofNat_of_zero_le (Int.not_lt.1 h0)
      exact Ct.goes_ok M S v1 l A B W ⟨hF⟩ hs hok hin (λx hx=>(hlf x hx).d) hr h2 h3 (ze6 hok hc) hci (by omega) (by omega)
    ·exact Ct.goes_4 M S v1 l a b W ⟨hF⟩ hs hok hin ha hb hr ⟨a0,a1⟩ h0 h1 h2
 ·exact Ct.goes_1 M S v1 l a b W ⟨hF⟩ hs hok hin ha hb hr
theorem saveGoesOn_holds:Rows.SaveGoesOnCardSaid:=zc7 zdL
end Go.Proofs.YtbennamieealbaaGreatDoor
