/-
  Parts of a proof, joined.
-/
import Derived.Test.YtbhpfkjfijdmaaaGreatDoorZw36
import Derived.Test.YtbhpfkjfijdmaaaGreatDoorZw34
namespace Go.Proofs.YtbhpfkjfijdmaaaGreatDoor
open Go.ChangeShapes Go.WideShapes Go.ChangeAt Go.RowKit
set_option linter.unusedVariables false
set_option maxRecDepth 100000
set_option maxHeartbeats 3200000
theorem Lk.rcheck (l:List Inp) (v:Value) (B:Nat) (a:Int) (w:World) (h:InpAt B w v l) (hB:B<=w.heap.size):Calls Tryz.prog 24 #[v,.int .i64 a] w fun e w'=>e = .returned (.int .i64 (chkIn l a))/\Below w.heap.size w w':=by
 obtain ⟨a1,k1,e1⟩:=h.len
 subst e1
 by_cases hl:40 < l.length
 ·have hl':(40:Int) < l.length:=by omega
  have e0:chkIn l a=2:=if_pos hl
  rw [e0]
  clear h e0
  go_enter Tryz.func24,Tryz.ntmps24
  go_wp2
  go_ret
  exact ⟨rfl,st0 w⟩
 ·have hl':¬ (40:Int) < l.length:=by omega
  have e0:chkIn l a=chkL l a:=if_neg hl
  rw [e0]
  have H:=hid h
  clear h e0
  go_enter Tryz.func24,Tryz.ntmps24
  go_wp2
  go_loopw [14,5] (fun i ah wr=>∃ (j:Nat) (a':Int),j<=l.length/\i = .int .i64 j/\ah = .int .i64 a'/\chkL (l.drop j) a'=chkL l a/\Below w.heap.size w wr) (fun i _ _=>l.length - (intOf i).toNat)
  case atStart=>exact ⟨0,a,Nat.zero_le _,rfl,rfl,rfl,st0 w⟩
  case round =>
   obtain ⟨j,a',hj,rfl,rfl,hE,hb⟩:=hrel
   have HE:=hid hE
   have HB:=hid hb
   by_cases hlt:j < l.length
   ·obtain ⟨x,hx⟩:∃ x,l[j]? = some x:=⟨_,List.getElem?_eq_getElem hlt⟩
    have hd:l.drop j=x :: l.drop (j+1):=by
     rw [List.drop_eq_getElem_cons hlt]
     congr 1
     rw [List.getElem?_eq_getElem hlt] at hx
     exact Option.some.inj hx
    have HH:=(H.out.kept (hb.mono hB))
    obtain ⟨g,o,k,ev,gz,x0,x1,x2⟩:=HH.at' hx
    cases ev
    have hjl:(j:Int) < l.length:=by omega
    have hj0:(0:Int)<=j:=by omega
    have HD:=hid hd
    clear hE hb hd hx HH
    by_cases q1:x.c < a'
    ·go_wp2
     go_ret
     exact ⟨by rw [<- HE.out,HD.out,chk3 (Or.inl q1)];rfl,stA HB.out _⟩
    ·have q1':a'<=x.c:=by omega
     by_cases q2:400000 < x.c
     ·go_wp2
      go_ret
      exact ⟨by rw [<- HE.out,HD.out,chk3 (Or.inr q2)];rfl,stA HB.out _⟩
     ·have q2':x.c<=400000:=by omega
      have HQ:Hid (¬ (x.c < a' \/ 400000 < x.c)):=fun e=>e.elim (fun e=>by omega) (fun e=>by omega)
      clear q1 q2
      by_cases q3:x.p < 0
      ·have HP:Hid (¬ (x.p=0 \/ x.p=1)):=fun e=>e.elim (fun e=>by omega) (fun e=>by omega)
       go_wp2
       go_ret
       exact ⟨by rw [<- HE.out,HD.out,chk5 HQ.out HP.out];rfl,stA HB.out _⟩
      ·have q3':0<=x.p:=by omega
       by_cases q4:1 < x.p
       ·have HP:Hid (¬ (x.p=0 \/ x.p=1)):=fun e=>e.elim (fun e=>by omega) (fun e=>by omega)
        clear q3
        go_wp2
        go_ret
        exact ⟨by rw [<- HE.out,HD.out,chk5 HQ.out HP.out];rfl,stA HB.out _⟩
       ·have q4':x.p<=1:=by omega
        have HP:Hid (x.p=0 \/ x.p=1):=hid (by omega)
        clear q3 q4
        go_wp2
        exact ⟨⟨j+1,x.c,by omega,by simp,rfl,by rw [<- HE.out,HD.out,chk0 HQ.out HP.out],stA HB.out _⟩,by simp [intOf];omega⟩
   ·have hj2:j=l.length:=by omega
    subst hj2
    have hnl:¬ (l.length:Int) < l.length:=by omega
    clear hE hb
    go_wp2
    go_ret
    refine ⟨?_,HB.out⟩
    have:=HE.out
    rw [List.drop_length] at this
    rw [<- this];rfl
theorem run_err3 {M:Mach} {l:List Inp} {n:Int} (h1:M.chk=0) (h2:chkIn l M.clock=0) (h:¬ (0<=n/\n<=20000/\M.clock+n<=200000)):runErr M l n=3:=by
 unfold runErr
 rw [if_pos h1,if_pos h2,if_neg h]
theorem run_err0 {M:Mach} {l:List Inp} {n:Int} (h1:M.chk=0) (h2:chkIn l M.clock=0) (h:0<=n/\n<=20000/\M.clock+n<=200000):runErr M l n=0:=by
 unfold runErr
 rw [if_pos h1,if_pos h2,if_pos h]
theorem Lk.badRun (M:Mach) (S:Sl) (v:Value) (l:List Inp) (n:Int) (w:World) (hS:S.lens M) (hok:M.ok) (hin:InpAt w.heap.size w v l) (hn:-9223372036854775808<=n/\n<=9223372036854775807) :
 Calls Tryz.prog 8 #[.agg (machL M S).toArray,v,.int .i64 n,.int .i64 20000] w fun e w'=>e = .returned (.int .i64 (runErr M l n))/\Below w.heap.size w w':=by
 have hq:Below w.heap.size w (w.alloc (.cells (machL M S).toArray 41)):=stA (st0 w) _
 have HB:=hid (Bx.new w (machL M S) 41 (b:=w.heap.size) rfl)
 have HIN:=hid ((hin.kept hq).mono hq.size)
 have HS:=hid hS
 have hz:w.heap.size < (w.alloc (.cells (machL M S).toArray 41)).heap.size:=by simp
 by_cases hc:M.chk=0
 ·have hf:=chk_fit hok hc
  have hcl:=hf.clock
  have HC:=hid hc
  by_cases hi:chkIn l M.clock=0
  ·have HI:=hid hi
   clear hc hi hin hS hok hf
   by_cases h0:n < 0
   ·have he:=run_err3 HC.out HI.out (n:=n) (by omega)
    rw [he]
    have d1:decide (n < 0)=true:=decide_eq_true h0
    clear he h0
    go_enter Tryz.func8,Tryz.ntmps8
    go_wp2_with (first
     | (refine wpList_load_mid rfl 41 _ rfl w.heap.size 0 rfl (machL M S) _ HB.out.c Tryz.underlying41 rfl info_mach ?_)
     | (go_at_call 23;refine (Gm.check_any M S _ HS.out).mono ?_;rw [HC.out];rintro e w1 ⟨rfl,hb1⟩;have HB1:=hid (HB.out.kept hb1);have HL1:=hid (stp hq hb1);have HI1:=hid ((HIN.out.kept hb1).mono hb1.size);have x72:=HB1.out.at 72 (.int .i64 M.clock) rfl;have xz:=HB1.out.z;clear hb1)
     | (go_at_call 24;refine (Lk.rcheck l v _ M.clock _ HI1.out (Nat.le_refl _)).mono ?_;rw [HI.out];rintro e w2 ⟨rfl,hb2⟩;have HB2:=hid (HB1.out.kept hb2);have HL2:=hid (stp HL1.out hb2);have y72:=HB2.out.at 72 (.int .i64 M.clock) rfl;have yz:=HB2.out.z;clear hb2))
    go_ret
    exact ⟨rfl,HL2.out⟩
   ·have d1:decide (n < 0)=false:=decide_eq_false h0
    by_cases h2:20000 < n
    ·have he:=run_err3 HC.out HI.out (n:=n) (by omega)
     rw [he]
     have d2:decide (20000 < n)=true:=decide_eq_true h2
     clear he h0 h2
     go_enter Tryz.func8,Tryz.ntmps8
     go_wp2_with (first
      | (refine wpList_load_mid rfl 41 _ rfl w.heap.size 0 rfl (machL M S) _ HB.out.c Tryz.underlying41 rfl info_mach ?_)
      | (go_at_call 23;refine (Gm.check_any M S _ HS.out).mono ?_;rw [HC.out];rintro e w1 ⟨rfl,hb1⟩;have HB1:=hid (HB.out.kept hb1);have HL1:=hid (stp hq hb1);have HI1:=hid ((HIN.out.kept hb1).mono hb1.size);have x72:=HB1.out.at 72 (.int .i64 M.clock) rfl;have xz:=HB1.out.z;clear hb1)
      | (go_at_call 24;refine (Lk.rcheck l v _ M.clock _ HI1.out (Nat.le_refl _)).mono ?_;rw [HI.out];rintro e w2 ⟨rfl,hb2⟩;have HB2:=hid (HB1.out.kept hb2);have HL2:=hid (stp HL1.out hb2);have y72:=HB2.out.at 72 (.int .i64 M.clock) rfl;have yz:=HB2.out.z;clear hb2))
     go_ret
     exact ⟨rfl,HL2.out⟩
    ·have d2:decide (20000 < n)=false:=decide_eq_false h2
     have h0':0<=n:=by omega
     have h2':n<=20000:=by omega
     by_cases h4:200000 < M.clock+n
     ·have he:=run_err3 HC.out HI.out (n:=n) (by omega)
      rw [he]
      have d3:decide (200000 < M.clock+n)=true:=decide_eq_true h4
      clear he h0 h2 h4
      go_enter Tryz.func8,Tryz.ntmps8
      go_wp2_with (first
       | (refine wpList_load_mid rfl 41 _ rfl w.heap.size 0 rfl (machL M S) _ HB.out.c Tryz.underlying41 rfl info_mach ?_)
       | (go_at_call 23;refine (Gm.check_any M S _ HS.out).mono ?_;rw [HC.out];rintro e w1 ⟨rfl,hb1⟩;have HB1:=hid (HB.out.kept hb1);have HL1:=hid (stp hq hb1);have HI1:=hid ((HIN.out.kept hb1).mono hb1.size);have x72:=HB1.out.at 72 (.int .i64 M.clock) rfl;have xz:=HB1.out.z;clear hb1)
       | (go_at_call 24;refine (Lk.rcheck l v _ M.clock _ HI1.out (Nat.le_refl _)).mono ?_;rw [HI.out];rintro e w2 ⟨rfl,hb2⟩;have HB2:=hid (HB1.out.kept hb2);have HL2:=hid (stp HL1.out hb2);have y72:=HB2.out.at 72 (.int .i64 M.clock) rfl;have yz:=HB2.out.z;clear hb2))
      go_ret
      exact ⟨rfl,HL2.out⟩
     ·have he:=run_err0 HC.out HI.out (n:=n) (by omega)
      rw [he]
      have d3:decide (200000 < M.clock+n)=false:=decide_eq_false h4
      clear he h0 h2 h4
      go_enter Tryz.func8,Tryz.ntmps8
      go_wp2_with (first
       | (refine wpList_load_mid rfl 41 _ rfl w.heap.size 0 rfl (machL M S) _ HB.out.c Tryz.underlying41 rfl info_mach ?_)
       | (go_at_call 23;refine (Gm.check_any M S _ HS.out).mono ?_;rw [HC.out];rintro e w1 ⟨rfl,hb1⟩;have HB1:=hid (HB.out.kept hb1);have HL1:=hid (stp hq hb1);have HI1:=hid ((HIN.out.kept hb1).mono hb1.size);have x72:=HB1.out.at 72 (.int .i64 M.clock) rfl;have xz:=HB1.out.z;clear hb1)
       | (go_at_call 24;refine (Lk.rcheck l v _ M.clock _ HI1.out (Nat.le_refl _)).mono ?_;rw [HI.out];rintro e w2 ⟨rfl,hb2⟩;have HB2:=hid (HB1.out.kept hb2);have HL2:=hid (stp HL1.out hb2);have y72:=HB2.out.at 72 (.int .i64 M.clock) rfl;have yz:=HB2.out.z;clear hb2))
      go_ret
      exact ⟨rfl,HL2.out⟩
  ·have he:runErr M l n=chkIn l M.clock:=by unfold runErr;rw [if_pos hc,if_neg hi]
   have hne:(chkIn l M.clock != 0)=true:=by simpa using hi
   rw [he]
   have HRC:=hid (fun (w1:World) (h:InpAt w1.heap.size w1 v l)=>Lk.rcheck l v _ M.clock w1 h (Nat.le_refl _))
   generalize chkIn l M.clock=c at hne HRC
   clear hc hi hin hS hok hf he
   go_enter Tryz.func8,Tryz.ntmps8
   go_wp2_with (first
    | (refine wpList_load_mid rfl 41 _ rfl w.heap.size 0 rfl (machL M S) _ HB.out.c Tryz.underlying41 rfl info_mach ?_)
    | (go_at_call 23;refine (Gm.check_any M S _ HS.out).mono ?_;rw [HC.out];rintro e w1 ⟨rfl,hb1⟩;have HB1:=hid (HB.out.kept hb1);have HL1:=hid (stp hq hb1);have HI1:=hid ((HIN.out.kept hb1).mono hb1.size);have x72:=HB1.out.at 72 (.int .i64 M.clock) rfl;have xz:=HB1.out.z;clear hb1)
    | (go_at_call 24;refine (HRC.out _ HI1.out).mono ?_;rintro e w2 ⟨rfl,hb2⟩;have HL2:=hid (stp HL1.out hb2);clear hb2))
   go_ret
   exact ⟨rfl,HL2.out⟩
 ·have he:runErr M l n=M.chk:=by unfold runErr;rw [if_neg hc]
  have hne:(M.chk != 0)=true:=by simpa using hc
  rw [he]
  have HCM:=hid (fun (w1:World)=>Gm.check_any M S w1 HS.out)
  generalize M.chk=c at hne HCM
  clear hc hin hS hok he
  go_enter Tryz.func8,Tryz.ntmps8
  go_wp2_with (first
   | (refine wpList_load_mid rfl 41 _ rfl w.heap.size 0 rfl (machL M S) _ HB.out.c Tryz.underlying41 rfl info_mach ?_)
   | (go_at_call 23;refine (HCM.out _).mono ?_;rintro e w1 ⟨rfl,hb1⟩;have HL1:=hid (stp hq hb1);clear hb1))
  go_ret
  exact ⟨rfl,HL1.out⟩
theorem Lk.parts_1 (M:Mach) (S:Sl) (v:Value) (l:List Inp) (a b:Int) (w:World) (hF:AF w) (hs:SlAt w S M) (hok:M.ok) (hin:InpAt w.heap.size w v l) (ha:-9223372036854775808<=a/\a<=9223372036854775807) (hb:-9223372036854775808<=b/\b<=9223372036854775807) (hr:runErr M l a ≠ 0) :
 Calls Tryz.prog 3 #[.agg (machL M S).toArray,v,.int .i64 a,.int .i64 b] w fun e w'=>e = .returned (.bool true)/\Below w.heap.size w w':=by
 have HF:=hid hF
 have hq:Below w.heap.size w (w.alloc (.cells (machL M S).toArray 41)):=stA (st0 w) _
 have HB:=hid (Bx.new w (machL M S) 41 (b:=w.heap.size) rfl)
 have HIN:=hid hin
 have HS:=hid hs.lens
 have HOK:=hid hok
 have HA:=hid ha
 obtain ⟨c,hc⟩:∃ c,runErr M l a=c:=⟨_,rfl⟩
 have HRA:=hid hc
 have hne:(c != 0)=true:=by rw [<- hc];simpa using hr
 clear hr hc
 clear hF hs hok hin ha
 go_enter Tryz.func3,Tryz.ntmps3
 go_wp2_with (first
  | (go_at_call 7;refine (Lk.locked_any _ (HF.out.kept HL2.out)).mono ?_;rintro e w9 ⟨rfl,hb9⟩;have HL9:=hid (stp HL2.out hb9);clear hb9)
  | (go_at_call 7;refine (Lk.locked_any _ (HF.out.kept hq)).mono ?_;rintro e w1 ⟨rfl,hb1⟩;have HB1:=hid (HB.out.kept hb1);have HL1:=hid (stp hq hb1);clear hb1)
  | (refine Bu.loadG rfl 41 _ rfl w.heap.size 0 rfl (machL M S) _ HB2.out.c Tryz.underlying41 rfl info_mach ?_)
  | (refine Bu.loadG rfl 41 _ rfl w.heap.size 0 rfl (machL M S) _ HB1.out.c Tryz.underlying41 rfl info_mach ?_)
  | (go_at_call 8;refine (Lk.badRun M S v l a _ HS.out HOK.out ((HIN.out.kept HL1.out).mono HL1.out.size) HA.out).mono ?_;rw [HRA.out];rintro e w2 ⟨rfl,hb2⟩;have HB2:=hid (HB1.out.kept hb2);have HL2:=hid (stp HL1.out hb2);clear hb2))
 go_ret
 exact ⟨rfl,HL9.out⟩
theorem Lk.parts_2 (M:Mach) (S:Sl) (v:Value) (l:List Inp) (a b:Int) (w:World) (hF:AF w) (hs:SlAt w S M) (hok:M.ok) (hin:InpAt w.heap.size w v l) (ha:-9223372036854775808<=a/\a<=9223372036854775807) (hb:-9223372036854775808<=b/\b<=9223372036854775807) (hr:runErr M l a=0) (h0:b < 0) :
 Calls Tryz.prog 3 #[.agg (machL M S).toArray,v,.int .i64 a,.int .i64 b] w fun e w'=>e = .returned (.bool true)/\Below w.heap.size w w':=by
 have HF:=hid hF
 have hq:Below w.heap.size w (w.alloc (.cells (machL M S).toArray 41)):=stA (st0 w) _
 have HB:=hid (Bx.new w (machL M S) 41 (b:=w.heap.size) rfl)
 have HIN:=hid hin
 have HS:=hid hs.lens
 have HOK:=hid hok
 have HA:=hid ha
 have HRA:=hid hr
 have d1:decide (b < 0)=true:=decide_eq_true h0
 clear hr h0
 clear hF hs hok hin ha
 go_enter Tryz.func3,Tryz.ntmps3
 go_wp2_with (first
  | (go_at_call 7;refine (Lk.locked_any _ (HF.out.kept HL2.out)).mono ?_;rintro e w9 ⟨rfl,hb9⟩;have HL9:=hid (stp HL2.out hb9);clear hb9)
  | (go_at_call 7;refine (Lk.locked_any _ (HF.out.kept hq)).mono ?_;rintro e w1 ⟨rfl,hb1⟩;have HB1:=hid (HB.out.kept hb1);have HL1:=hid (stp hq hb1);clear hb1)
  | (refine Bu.loadG rfl 41 _ rfl w.heap.size 0 rfl (machL M S) _ HB2.out.c Tryz.underlying41 rfl info_mach ?_)
  | (refine Bu.loadG rfl 41 _ rfl w.heap.size 0 rfl (machL M S) _ HB1.out.c Tryz.underlying41 rfl info_mach ?_)
  | (go_at_call 8;refine (Lk.badRun M S v l a _ HS.out HOK.out ((HIN.out.kept HL1.out).mono HL1.out.size) HA.out).mono ?_;rw [HRA.out];rintro e w2 ⟨rfl,hb2⟩;have HB2:=hid (HB1.out.kept hb2);have HL2:=hid (stp HL1.out hb2);clear hb2))
 go_ret
 exact ⟨rfl,HL9.out⟩
theorem Lk.parts_3 (M:Mach) (S:Sl) (v:Value) (l:List Inp) (a b:Int) (w:World) (hF:AF w) (hs:SlAt w S M) (hok:M.ok) (hin:InpAt w.heap.size w v l) (ha:-9223372036854775808<=a/\a<=9223372036854775807) (hb:-9223372036854775808<=b/\b<=9223372036854775807) (hr:runErr M l a=0) (ha0:0<=a/\a<=20000) (h0:¬ b < 0) (h1:20000 - a < b) :
 Calls Tryz.prog 3 #[.agg (machL M S).toArray,v,.int .i64 a,.int .i64 b] w fun e w'=>e = .returned (.bool true)/\Below w.heap.size w w':=by
 have HF:=hid hF
 have hq:Below w.heap.size w (w.alloc (.cells (machL M S).toArray 41)):=stA (st0 w) _
 have HB:=hid (Bx.new w (machL M S) 41 (b:=w.heap.size) rfl)
 have HIN:=hid hin
 have HS:=hid hs.lens
 have HOK:=hid hok
 have HA:=hid ha
 have HRA:=hid hr
 have d1:decide (b < 0)=false:=decide_eq_false h0
 have d2:decide (20000 - a < b)=true:=decide_eq_true h1
 obtain ⟨a0,a1⟩:=ha0
 clear hr h0 h1
 clear hF hs hok hin ha
 go_enter Tryz.func3,Tryz.ntmps3
 go_wp2_with (first
  | (go_at_call 7;refine (Lk.locked_any _ (HF.out.kept HL2.out)).mono ?_;rintro e w9 ⟨rfl,hb9⟩;have HL9:=hid (stp HL2.out hb9);clear hb9)
  | (go_at_call 7;refine (Lk.locked_any _ (HF.out.kept hq)).mono ?_;rintro e w1 ⟨rfl,hb1⟩;have HB1:=hid (HB.out.kept hb1);have HL1:=hid (stp hq hb1);clear hb1)
  | (refine Bu.loadG rfl 41 _ rfl w.heap.size 0 rfl (machL M S) _ HB2.out.c Tryz.underlying41 rfl info_mach ?_)
  | (refine Bu.loadG rfl 41 _ rfl w.heap.size 0 rfl (machL M S) _ HB1.out.c Tryz.underlying41 rfl info_mach ?_)
  | (go_at_call 8;refine (Lk.badRun M S v l a _ HS.out HOK.out ((HIN.out.kept HL1.out).mono HL1.out.size) HA.out).mono ?_;rw [HRA.out];rintro e w2 ⟨rfl,hb2⟩;have HB2:=hid (HB1.out.kept hb2);have HL2:=hid (stp HL1.out hb2);clear hb2))
 go_ret
 exact ⟨rfl,HL9.out⟩
theorem Lk.parts_4 (M:Mach) (S:Sl) (v:Value) (l:List Inp) (a b:Int) (w:World) (hF:AF w) (hs:SlAt w S M) (hok:M.ok) (hin:InpAt w.heap.size w v l) (ha:-9223372036854775808<=a/\a<=9223372036854775807) (hb:-9223372036854775808<=b/\b<=9223372036854775807) (hr:runErr M l a=0) (ha0:0<=a/\a<=20000) (h0:¬ b < 0) (h1:¬ 20000 - a < b) (h2:runErr M l (a+b) ≠ 0) :
 Calls Tryz.prog 3 #[.agg (machL M S).toArray,v,.int .i64 a,.int .i64 b] w fun e w'=>e = .returned (.bool true)/\Below w.heap.size w w':=by
 have HF:=hid hF
 have hq:Below w.heap.size w (w.alloc (.cells (machL M S).toArray 41)):=stA (st0 w) _
 have HB:=hid (Bx.new w (machL M S) 41 (b:=w.heap.size) rfl)
 have HIN:=hid hin
 have HS:=hid hs.lens
 have HOK:=hid hok
 have HA:=hid ha
 have HRA:=hid hr
 have d1:decide (b < 0)=false:=decide_eq_false h0
 have d2:decide (20000 - a < b)=false:=decide_eq_false h1
 obtain ⟨a0,a1⟩:=ha0
 have HAB:Hid (-9223372036854775808<=a+b/\a+b<=9223372036854775807):=hid (by omega)
 have b0:0<=b:=by omega
 have b1:b<=20000:=by omega
 obtain ⟨c,hc⟩:∃ c,runErr M l (a+b)=c:=⟨_,rfl⟩
 have HRB:=hid hc
 have hne:(c != 0)=true:=by rw [<- hc];simpa using h2
 clear hr h0 h1 h2 hc hb
 clear hF hs hok hin ha
 go_enter Tryz.func3,Tryz.ntmps3
 go_wp2_with (first
  | (go_at_call 7;refine (Lk.locked_any _ (HF.out.kept HL3.out)).mono ?_;rintro e w9 ⟨rfl,hb9⟩;have HL9:=hid (stp HL3.out hb9);clear hb9)
  | (go_at_call 7;refine (Lk.locked_any _ (HF.out.kept hq)).mono ?_;rintro e w1 ⟨rfl,hb1⟩;have HB1:=hid (HB.out.kept hb1);have HL1:=hid (stp hq hb1);clear hb1)
  | (go_at_call 8;refine (Lk.badRun M S v l (a+b) _ HS.out HOK.out ((HIN.out.kept HL2.out).mono HL2.out.size) HAB.out).mono ?_;rw [HRB.out];rintro e w3 ⟨rfl,hb3⟩;have HB3:=hid (HB2.out.kept hb3);have HL3:=hid (stp HL2.out hb3);clear hb3)
  | (refine Bu.loadG rfl 41 _ rfl w.heap.size 0 rfl (machL M S) _ HB2.out.c Tryz.underlying41 rfl info_mach ?_)
  | (refine Bu.loadG rfl 41 _ rfl w.heap.size 0 rfl (machL M S) _ HB1.out.c Tryz.underlying41 rfl info_mach ?_)
  | (go_at_call 8;refine (Lk.badRun M S v l a _ HS.out HOK.out ((HIN.out.kept HL1.out).mono HL1.out.size) HA.out).mono ?_;rw [HRA.out];rintro e w2 ⟨rfl,hb2⟩;have HB2:=hid (HB1.out.kept hb2);have HL2:=hid (stp HL1.out hb2);clear hb2))
 go_ret
 exact ⟨rfl,HL9.out⟩
theorem Lk.parts_5 (M:Mach) (S:Sl) (v:Value) (l:List Inp) (a b:Int) (w:World) (hF:AF w) (hs:SlAt w S M) (hok:M.ok) (hin:InpAt w.heap.size w v l) (ha:-9223372036854775808<=a/\a<=9223372036854775807) (hb:-9223372036854775808<=b/\b<=9223372036854775807) (hr:runErr M l a=0) (ha0:0<=a/\a<=20000) (h0:¬ b < 0) (h1:¬ 20000 - a < b) (h2:runErr M l (a+b)=0) (h3:19000 < M.b.f) :
 Calls Tryz.prog 3 #[.agg (machL M S).toArray,v,.int .i64 a,.int .i64 b] w fun e w'=>e = .returned (.bool true)/\Below w.heap.size w w':=by
 have HF:=hid hF
 have hq:Below w.heap.size w (w.alloc (.cells (machL M S).toArray 41)):=stA (st0 w) _
 have HB:=hid (Bx.new w (machL M S) 41 (b:=w.heap.size) rfl)
 have HIN:=hid hin
 have HS:=hid hs.lens
 have HOK:=hid hok
 have HA:=hid ha
 have HRA:=hid hr
 have d1:decide (b < 0)=false:=decide_eq_false h0
 have d2:decide (20000 - a < b)=false:=decide_eq_false h1
 obtain ⟨a0,a1⟩:=ha0
 have HAB:Hid (-9223372036854775808<=a+b/\a+b<=9223372036854775807):=hid (by omega)
 have b0:0<=b:=by omega
 have b1:b<=20000:=by omega
 have HRB:=hid h2
 have hd:decide (19000 < M.b.f)=true:=decide_eq_true h3
 clear hr h0 h1 h2 h3 hb
 clear hF hs hok hin ha
 go_enter Tryz.func3,Tryz.ntmps3
 go_wp2_with (first
  | (go_at_call 7;refine (Lk.locked_any _ (HF.out.kept HL4.out)).mono ?_;rintro e w9 ⟨rfl,hb9⟩;have HL9:=hid (stp HL4.out hb9);clear hb9)
  | (go_at_call 7;refine (Lk.locked_any _ (HF.out.kept hq)).mono ?_;rintro e w1 ⟨rfl,hb1⟩;have HB1:=hid (HB.out.kept hb1);have HL1:=hid (stp hq hb1);clear hb1)
  | (go_at_call 9;refine (Lk.long_any M S _ _).mono ?_;rw [hd];rintro e w4 ⟨rfl,hb4⟩;have HL4:=hid (stp HL3.out hb4);clear hb4)
  | (refine Bu.loadG rfl 41 _ rfl w.heap.size 0 rfl (machL M S) _ HB3.out.c Tryz.underlying41 rfl info_mach ?_)
  | (go_at_call 8;refine (Lk.badRun M S v l (a+b) _ HS.out HOK.out ((HIN.out.kept HL2.out).mono HL2.out.size) HAB.out).mono ?_;rw [HRB.out];rintro e w3 ⟨rfl,hb3⟩;have HB3:=hid (HB2.out.kept hb3);have HL3:=hid (stp HL2.out hb3);clear hb3)
  | (refine Bu.loadG rfl 41 _ rfl w.heap.size 0 rfl (machL M S) _ HB2.out.c Tryz.underlying41 rfl info_mach ?_)
  | (refine Bu.loadG rfl 41 _ rfl w.heap.size 0 rfl (machL M S) _ HB1.out.c Tryz.underlying41 rfl info_mach ?_)
  | (go_at_call 8;refine (Lk.badRun M S v l a _ HS.out HOK.out ((HIN.out.kept HL1.out).mono HL1.out.size) HA.out).mono ?_;rw [HRA.out];rintro e w2 ⟨rfl,hb2⟩;have HB2:=hid (HB1.out.kept hb2);have HL2:=hid (stp HL1.out hb2);clear hb2))
 go_ret
 exact ⟨rfl,HL9.out⟩
section
variable {l a f : Int}
end
theorem row_cells {w:World} {B z n:Nat} {t:TypeId} {v:Value} {xs:List Value} (h:w.ownsRow B t z v n xs) (h0:0 < n):∃ g cap,v = .slice (some ⟨g,0,none⟩) n cap/\n<=cap/\g < w.heap.size /\ ∀ j x,xs[j]? = some x->w.cell? ⟨g,j,none⟩=some x:=by
 rcases h.2 with ⟨e0,e1⟩ | ⟨g,cap,cur,e0,hb,hg,hn,hm,hs,ht⟩
 ·omega
 ·refine ⟨g,cap,e0,hn,(Array.getElem?_eq_some_iff.1 hg).1,fun j x hj=>?_⟩
  rw [<- ht] at hj
  have hjl:j < n * z:=by
   have:=(List.getElem?_eq_some_iff.1 hj).1
   rw [List.length_take] at this;omega
  rw [List.getElem?_take_of_lt hjl,Array.getElem?_toList] at hj
  unfold World.cell?
  simp [hg,hj]
end Go.Proofs.YtbhpfkjfijdmaaaGreatDoor
