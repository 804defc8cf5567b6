/-
  Parts of a proof, joined.
-/
import Derived.Test.YtbennamieealbaaGreatDoorZc23
import Derived.Test.YtbennamieealbaaGreatDoorZc28
import Derived.Test.YtbennamieealbaaGreatDoorZc07
set_option linter.unusedVariables false
set_option maxRecDepth 100000
set_option maxHeartbeats 6400000
namespace Go.Proofs.YtbennamieealbaaGreatDoor.C
section
variable {σ : Type} {m : Mem σ} {P : σ -> Prop}
theorem keeps_rdw (h1:∀ s a,P s->P (m.rd s a).2) (s:σ) (a:Int) (h:P s):P (m.rdw s a).2:=by
 unfold Mem.rdw
 exact h1 _ _ (h1 _ _ h)
theorem keeps_wrw (h2:∀ s a b,P s->P (m.wr s a b)) (s:σ) (a n:Int) (h:P s):P (m.wrw s a n):=by
 unfold Mem.wrw
 exact h2 _ _ _ (h2 _ _ _ h)
theorem keeps_leave (h1:∀ s a,P s->P (m.rd s a).2) (h2:∀ s a b,P s->P (m.wr s a b)) (x:St σ) (a:Int) (h:P x.s):P (leave m x a).s:=by
 have e1:P (push m x x.c.PC).s:=keeps_wrw h2 _ _ _ h
 have e2:P (push m (push m x x.c.PC) (sign (push m x x.c.PC).c)).s:=keeps_wrw h2 _ _ _ e1
 exact keeps_rdw h1 _ _ e2
theorem keeps_act (h1:∀ s a,P s->P (m.rd s a).2) (h2:∀ s a b,P s->P (m.wr s a b)) (x:St σ) (k:Nat) (d s n w:Int) (h:P x.s):P (act m x k d s n w).s:=by
 have u2:∀ a n,P (m.wrw x.s a n):=λa n=>keeps_wrw h2 _ _ _ h
 have u1:∀ a n,P (m.wr x.s a n):=λa n=>h2 _ _ _ h
 have u3:∀ a,P (m.rdw x.s a).2:=λa=>keeps_rdw h1 _ _ h
 have u4:∀ a,P (m.rd x.s a).2:=λa=>h1 _ _ h
 have u5:∀ a b,P (m.rdw (m.rdw x.s a).2 b).2:=λa b=>keeps_rdw h1 _ _ (u3 a)
 unfold act
 split
 ·exact h
 ·exact h
 ·exact u3 _
 ·exact u2 _ _
 ·exact u4 _
 ·exact u1 _ _
 ·exact h
 ·exact h
 ·exact h
 ·exact h
 ·exact h
 ·exact h
 ·exact h
 ·exact h
 ·exact h
 ·exact h
 ·split <;> exact h
 ·split <;> exact h
 ·split <;> exact h
 ·exact u2 _ _
 ·exact u3 _
 ·exact u2 _ _
 ·exact u3 _
 ·exact h
 ·exact h
 ·exact u5 _ _
 ·exact h
 ·exact h
 ·split <;> exact h
 ·exact keeps_leave h1 h2 x 4 h
 ·exact h
theorem keeps_step (h1:∀ s a,P s->P (m.rd s a).2) (h2:∀ s a b,P s->P (m.wr s a b)) (c:Cpu) (s:σ) (r:Bool) (h:P s):P (step m c s r).s:=by
 unfold step
 split
 ·exact keeps_leave h1 h2 ⟨c,s,0⟩ 2 h
 ·split
  ·exact h
  ·unfold order
   refine keeps_act h1 h2 _ _ _ _ _ _ ?_
   show P (behind m c s).s
   unfold behind
   simp only
   split
   ·exact keeps_rdw h1 _ _ (keeps_rdw h1 _ _ h)
   ·exact keeps_rdw h1 _ _ h
end
end Go.Proofs.YtbennamieealbaaGreatDoor.C
namespace Go.Proofs.YtbennamieealbaaGreatDoor
open Go.ChangeShapes Go.WideShapes Go.ChangeAt Go.RowKit
section
variable {F : Fx} {N c : Nat} {vco vln vsm v' : Value} {w w1 : World} {k : Cs} {s s' : Bst}
theorem zda (s:Bst):s.stepMain.l=s.l:=by
 unfold Bst.stepMain
 split
 ·rfl
 ·show (C.step mainMem s.M.main ⟨s.M,0,s.l⟩ (s.M.t.g || s.M.b.g)).s.l=s.l
  exact C.keeps_step (m:=mainMem) (P:=λx=>x.l=s.l) (λx a h=>h) (λx a b h=>h) _ _ _ rfl
theorem zmE (hF:Fb F N) (s:Bst) (h:s.l.length<=1000000):s.stepAux.l.length<=s.l.length+4:=by
 unfold Bst.stepAux
 split
 ·omega
 ·show (C.step auxMem s.M.aux s s.M.rung).s.l.length<=s.l.length+4
  have hf:=C.fuel_step (zjg hF).frd (zjg hF).fwr s.M.aux s s.M.rung
  have h0:1000000001-s.l.length<=1000000001-(C.step auxMem s.M.aux s s.M.rung).s.l.length+4:=hf
  omega
theorem zhQ (M:Mach):∀ (l:List Inp),(∀ x∈l,x.ok)->∀ x∈M.coming l,x.ok
 | [],h=>h
 | y::l,h=>by
  unfold Mach.coming
  split
  ·exact zhQ M l (λx hx=>h x (List.mem_cons_of_mem _ hx))
  ·exact h
theorem Lk.nowK (hF:Fb F N) (h:CI F N c vco vln vsm w k) (h1:k.ln.length<=100000) (h2:k.sm.length<=100000) (h3:k.s.l.length<=1000000):Calls Tryz.prog 35 #[pt c 0] w λe w'=>e = .returned (.tuple #[])/\(∃ vco' vln' vsm',CI F N c vco' vln' vsm' w' k.now/\Below F.B w w')/\Kp N c w w':=by
 have HF:=hid hF
 have H:=hid h
 have H1:=hid h1
 have H2:=hid h2
 have H3:=hid h3
 clear hF h h1 h2 h3
 go_enter Tryz.func35,Tryz.ntmps35
 go_wp2_with (first
  | (go_at_call 59;refine (Lk.press (M:=k.s.M) (n:=k.s.n) (l:=k.s.l) HF.out H.out.i H.out.cb H.out.co H.out.ok).mono ?_;rintro e w1 ⟨rfl,v1,hx1⟩;have HC1:=hid (H.out.pressed hx1 (zhQ _ _ H.out.ok));have HB1:=hid hx1.km.m.below;have HK1:Hid (Kp N c w w1):=hid hx1.km.kp;clear hx1)
  | (go_at_call 60;refine (Lk.showLine HF.out HC1.out H1.out).mono ?_;rintro e w2 ⟨rfl,⟨v2,hx2,hb2⟩,hk2⟩;have HC2:=hid hx2;have HB2:=hid hb2;have HK2:=hid hk2;clear hx2 hb2 hk2)
  | (go_at_call 61;refine (Lk.showSample HF.out HC2.out H2.out).mono ?_;rintro e w3 ⟨rfl,⟨v3,hx3,hb3⟩,hk3⟩;have HC3:=hid hx3;have HB3:=hid hb3;have HK3:=hid hk3;clear hx3 hb3 hk3)
  | (go_at_call 62;refine (Lk.stepMain HF.out HC3.out.i HC3.out.cb).mono ?_;rintro e w4 ⟨rfl,hm4⟩;have HC4:=hid (HC3.out.step hm4);have HB4:=hid hm4.m.below;have HK4:Hid (Kp N c w3 w4):=hid hm4.kp;clear hm4)
  | (go_at_call 63;refine (Lk.stepAux HF.out HC4.out.i HC4.out.cb (by show (Bst.stepMain _).l.length<=1000000;rw [zda];exact H3.out)).mono ?_;rintro e w5 ⟨rfl,hm5⟩;have HC5:=hid (HC4.out.step hm5);have HB5:=hid hm5.m.below;have HK5:Hid (Kp N c w4 w5):=hid hm5.kp;clear hm5))
 go_end0
 exact ⟨rfl,⟨v1,v2,v3,HC5.out,(((HB1.out.trans HB2.out).trans HB3.out).trans HB4.out).trans HB5.out⟩,(((HK1.out.trans HK2.out).trans HK3.out).trans HK4.out).trans HK5.out⟩
theorem Lk.now (hF:Fb F N) (h:CI F N c vco vln vsm w k) (h1:k.ln.length<=100000) (h2:k.sm.length<=100000) (h3:k.s.l.length<=1000000):Calls Tryz.prog 35 #[pt c 0] w λe w'=>e = .returned (.tuple #[]) /\ ∃ vco' vln' vsm',CI F N c vco' vln' vsm' w' k.now/\Below F.B w w':=by
 refine (Lk.nowK hF h h1 h2 h3).mono ?_
 rintro e w' ⟨h1,h2,_⟩
 exact ⟨h1,h2⟩
end
def chkL:List Inp->Int->Int
 | [],_=>0
 | x::l,a=>if x.c<a \/ 400000<x.c then 3 else if x.p=0 \/ x.p=1 then chkL l x.c else 5
def chkIn (l:List Inp) (a:Int):Int:=if 40<l.length then 2 else chkL l a
theorem zcz:∀ (l:List Inp) (a:Int),chkL l a=0->∀ x∈l,(x.p=0 \/ x.p=1)/\a<=x.c
 | [],_,_=>λx hx=>by cases hx
 | y::l,a,h=>λx hx=>by
  unfold chkL at h
  split at h
  ·cases h
  ·rename_i h1
   split at h
   ·rename_i h2
    rcases List.mem_cons.1 hx with rfl|hx
    ·exact ⟨h2,by omega⟩
    ·obtain ⟨e1,e2⟩:=zcz l y.c h x hx
     exact ⟨e1,by omega⟩
   ·cases h
theorem chk3 {x:Inp} {l:List Inp} {a:Int} (h:x.c<a \/ 400000<x.c):chkL (x::l) a=3:=if_pos h
theorem chk0 {x:Inp} {l:List Inp} {a:Int} (h:¬ (x.c<a \/ 400000<x.c)) (hp:x.p=0 \/ x.p=1):chkL (x::l) a=chkL l x.c:=(if_neg h).trans (if_pos hp)
theorem chk5 {x:Inp} {l:List Inp} {a:Int} (h:¬ (x.c<a \/ 400000<x.c)) (hp:¬ (x.p=0 \/ x.p=1)):chkL (x::l) a=5:=(if_neg h).trans (if_neg hp)
theorem InpAt.at' {B:Nat} {w:World} {v:Value} {l:List Inp} (h:InpAt B w v l) {j:Nat} {x:Inp} (hx:l[j]? = some x):∃ g o k,v = .slice (some ⟨g,o,none⟩) l.length k/\g<w.heap.size/\w.cell? ⟨g,o+j*3,none⟩=some (.int .i64 x.c)/\w.cell? ⟨g,o+j*3+1,none⟩=some (.int .i64 x.p)/\w.cell? ⟨g,o+j*3+2,none⟩=some (.int .u8 x.d):=by
 rcases h with ⟨rfl,_⟩|⟨g,o,k,h1,h2,h3,h4,h5⟩
 ·simp at hx
 ·obtain ⟨e1,e2,e3⟩:=h5 j x hx
  rw [Nat.mul_comm 3 j] at e1 e2 e3
  exact ⟨g,o,k,h1,h4,e1,e2,e3⟩
theorem Lk.checkInputs (l:List Inp) (v:Value) (B:Nat) (a:Int) (w:World) (h:InpAt B w v l) (hB:B<=w.heap.size):Calls Tryz.prog 55 #[v,.int .i64 a] w λe w'=>e = .returned (.int .i64 (chkIn l a))/\Below w.heap.size w w':=by
 obtain ⟨a1,k1,e1⟩:=h.len
 subst e1
 by_cases hl:40<l.length
 ·have hl':(40:Int)<l.length:=by omega
  have e0:chkIn l a=2:=if_pos hl
  rw [e0]
  clear h e0
  go_enter Tryz.func55,Tryz.ntmps55
  go_wp2
  go_ret
  exact ⟨rfl,st0 w⟩
 ·have hl':¬ (40:Int)<l.length:=by omega
  have e0:chkIn l a=chkL l a:=if_neg hl
  rw [e0]
  have H:=hid h
  clear h e0
  go_enter Tryz.func55,Tryz.ntmps55
  go_wp2
  go_loopw [14,5] (λi ah wr=>∃ (j:Nat) (a':Int),j<=l.length/\i = .int .i64 j/\ah = .int .i64 a'/\chkL (l.drop j) a'=chkL l a/\Below w.heap.size w wr) (λi _ _=>l.length-(intOf i).toNat)
  case atStart=>exact ⟨0,a,Nat.zero_le _,rfl,rfl,rfl,st0 w⟩
  case round =>
   obtain ⟨j,a',hj,rfl,rfl,hE,hb⟩:=hrel
   have HE:=hid hE
   have HB:=hid hb
   by_cases hlt:j<l.length
   ·obtain ⟨x,hx⟩:∃ x,l[j]? = some x:=⟨_,List.getElem?_eq_getElem hlt⟩
    have hd:l.drop j=x::l.drop (j+1):=by
     rw [List.drop_eq_getElem_cons hlt]
     congr 1
     rw [List.getElem?_eq_getElem hlt] at hx
     exact Option.some.inj hx
    have HH:=(H.out.kept (hb.mono hB))
    obtain ⟨g,o,k,ev,gz,x0,x1,x2⟩:=HH.at' hx
    cases ev
    have hjl:(j:Int)<l.length:=by omega
    have hj0:(0:Int)<=j:=by omega
    have HD:=hid hd
    clear hE hb hd hx HH
    by_cases q1:x.c<a'
    ·go_wp2
     go_ret
     exact ⟨by rw [<- HE.out,HD.out,chk3 (Or.inl q1)];rfl,stA HB.out _⟩
    ·have q1':a'<=x.c:=by omega
     by_cases q2:400000<x.c
     ·go_wp2
      go_ret
      exact ⟨by rw [<- HE.out,HD.out,chk3 (Or.inr q2)];rfl,stA HB.out _⟩
     ·have q2':x.c<=400000:=by omega
      have HQ:Hid (¬ (x.c<a' \/ 400000<x.c)):=λe=>e.elim (λe=>by omega) (λe=>by omega)
      clear q1 q2
      by_cases q3:x.p=0
      ·have HP:=hid q3
       rw [q3] at x1
       clear q3
       go_wp2
       exact ⟨⟨j+1,x.c,by omega,by simp,rfl,by rw [<- HE.out,HD.out,chk0 HQ.out (Or.inl HP.out)],stA HB.out _⟩,by simp [intOf];omega⟩
      ·by_cases q4:x.p=1
       ·have HP:=hid q4
        rw [q4] at x1
        clear q3 q4
        go_wp2
        exact ⟨⟨j+1,x.c,by omega,by simp,rfl,by rw [<- HE.out,HD.out,chk0 HQ.out (Or.inr HP.out)],stA HB.out _⟩,by simp [intOf];omega⟩
       ·have HP:Hid (¬ (x.p=0 \/ x.p=1)):=λe=>e.elim q3 q4
        have q3':(x.p != 0)=true:=by simpa using q3
        have q4':(x.p != 1)=true:=by simpa using q4
        clear q3 q4
        go_wp2
        all_goals first
         | (exfalso;simp_all;done)
         | (go_ret;exact ⟨by rw [<- HE.out,HD.out,chk5 HQ.out HP.out];rfl,stA HB.out _⟩)
   ·have hj2:j=l.length:=by omega
    subst hj2
    have hnl:¬ (l.length:Int)<l.length:=by omega
    clear hE hb
    go_wp2
    go_ret
    refine ⟨?_,HB.out⟩
    have:=HE.out
    rw [List.drop_length] at this
    rw [<- this];rfl
def runErr (M:Mach) (l:List Inp) (n:Int):Int:=if M.chk=0 then (if chkIn l M.clock=0 then (if 0<=n/\n<=20000/\M.clock+n<=200000 then 0 else 3) else chkIn l M.clock) else M.chk
theorem zd6 {w:World} (h:shapesAt w):2<w.heap.size:=World.block_lt_of_cell? w ⟨2,0*3,none⟩ (h 0 (by omega)).1
theorem zsk {l:List Inp} {a:Int} (h:chkIn l a=0) (hd:∀ x∈l,0<=x.d/\x.d<=255):∀ x∈l,x.ok:=λx hx=>by
 unfold chkIn at h
 split at h
 ·cases h
 ·exact ⟨(zcz l a h x hx).1,hd x hx⟩
theorem InpAt.mono {B B':Nat} {w:World} {v:Value} {l:List Inp} (h:InpAt B w v l) (hB:B<=B'):InpAt B' w v l:=by
 rcases h with h|⟨g,o,k,h1,h2,h3,h4⟩
 ·exact Or.inl h
 ·exact Or.inr ⟨g,o,k,h1,h2,Nat.lt_of_lt_of_le h3 hB,h4⟩
theorem zfg (M:Mach) (S:Sl) (v:Value) (l:List Inp) (n:Int) (w:World) (hs:SlAt w S M) (hsh:shapesAt w) (hin:InpAt w.heap.size w v l) (hd:∀ x∈l,0<=x.d/\x.d<=255) (hf:M.fit) (hf2:M.b.f<=20000) (hc:chkIn l M.clock=0) (hn:0<=n/\n<=20000/\M.clock+n<=200000) :
 Calls Tryz.prog 30 #[.agg (machL M S).toArray,v,.int .i64 n] w λe w'=>∃ (F:Fx) (N c:Nat),e = .returned (.tuple #[pt c 0,.int .i64 0])/\Fb F N/\w.heap.size<=F.B/\(F.B<=F.mr/\F.B<=F.ar)/\CI F N c v (.slice none 0 0) (.slice none 0 0) w' ⟨⟨M,0,[]⟩,l,[],[]⟩/\Below w.heap.size w w':=by
 have hB:=Bx.new w (machL M S) 41 (b:=w.heap.size) rfl
 have HB:=hid hB
 have HS:=hid (hs.kept (stA (st0 w) (.cells (machL M S).toArray 41)))
 have HSH:=hid hsh
 have HIN:=hid hin
 have HD:=hid hd
 have HF:=hid hf
 have HF2:=hid hf2
 have HC:=hid hc
 obtain ⟨hn0,hn1,hn2⟩:=hn
 have hcl:=hf.clock
 obtain ⟨a1,k1,e1⟩:=hin.len
 subst e1
 have hwr:IntKind.i64.wrap (M.clock+n)=M.clock+n:=by rw [IntKind.wrap_i64];omega
 clear hB hs hsh hin hd hf hf2 hc
 go_enter Tryz.func30,Tryz.ntmps30
 go_wp2_with (first
  | (refine wpList_load_mid rfl 41 _ rfl w.heap.size 0 rfl (machL M S) _ HB.out.c Tryz.underlying41 rfl zaa ?_)
  | (go_at_call 51;refine (zbr M S _ HS.out.lens HS.out HF.out HF2.out).mono ?_;rintro e w1 ⟨F,hFB,rfl,hmr,hBd,hb1⟩;have HFB:=hid hFB;have HMR:=hid hmr;have HBD:=hid hBd;have HB1:=hid hb1;have m72:=(HB.out.kept hb1).at 72 (.int .i64 M.clock) rfl;have z72:=(HB.out.kept hb1).z;clear hFB hmr hBd hb1)
  | (go_at_call 55;refine (Lk.checkInputs l _ w.heap.size M.clock _ (HIN.out.kept ((stp (stA (st0 w) _) HB1.out))) (stp (stA (st0 w) (.cells (machL M S).toArray 41)) HB1.out).size).mono ?_;rw [HC.out];rintro e w2 ⟨rfl,hb2⟩;have HB2:=hid hb2;have n72:=((HB.out.kept HB1.out).kept hb2).at 72 (.int .i64 M.clock) rfl;have y72:=((HB.out.kept HB1.out).kept hb2).z;clear hb2))
 have hBF:w.heap.size+1=F.B:=by have:=HFB.out;simp at this;omega
 have hL:Below w.heap.size w (w2.alloc (.cells #[pt F.g 0,.slice a1 l.length k1,.slice none 0 0,.slice none 0 0,.slice none 0 0,pt F.g 0] 93)):=stA (stp (stp (stA (st0 w) _) HB1.out) HB2.out) _
 have hsl:=zd6 HSH.out
 have hz1:=HB1.out.size
 simp at hz1
 go_ret2
 refine ⟨F,w1.heap.size,w2.heap.size,rfl,⟨HBD.out.into,by omega,by omega⟩,by omega,HMR.out,⟨⟨Nat.le_trans HB2.out.size (by simp),zbw HSH.out (hL.block _ hsl),Int.le_refl 0,.slice none 0 0,(HBD.out.kept HB2.out).over _⟩,⟨HB2.out.size,heap_alloc_new w2 _⟩,(HIN.out.kept hL).mono (by omega),zsk HC.out HD.out,World.ownsRow_nil _ _ _ _,World.ownsRow_nil _ _ _ _⟩,hL⟩
theorem zd7 (M:Mach) (S:Sl) (v:Value) (l:List Inp) (n:Int) (w:World) (hs:SlAt w S M) (hz:∀ j,j<5->(M.byt j).length<=9223372036854775807) (hok:M.ok) (hin:InpAt w.heap.size w v l) (hn:-9223372036854775808<=n/\n<=9223372036854775807) (hr:runErr M l n≠0) :
 Calls Tryz.prog 30 #[.agg (machL M S).toArray,v,.int .i64 n] w λe w'=>e = .returned (.tuple #[.pointer none,.int .i64 (runErr M l n)])/\Below w.heap.size w w':=by
 have hB:=Bx.new w (machL M S) 41 (b:=w.heap.size) rfl
 have HB:=hid hB
 have HS:=hid (hs.kept (stA (st0 w) (.cells (machL M S).toArray 41)))
 have HIN:=hid hin
 have HZ:=hid hz
 obtain ⟨a1,k1,e1⟩:=hin.len
 subst e1
 by_cases hc:M.chk=0
 ·have hf:=zgp hok hc
  have HF:=hid hf
  have HF2:=hid (zmh hc)
  have hcl:=hf.clock
  by_cases hi:chkIn l M.clock=0
  ·have hr':¬ (0<=n/\n<=20000/\M.clock+n<=200000):=λe=>hr (by unfold runErr;rw [if_pos hc,if_pos hi,if_pos e])
   have e0:runErr M l n=3:=by unfold runErr;rw [if_pos hc,if_pos hi,if_neg hr']
   rw [e0]
   have HC:=hid hi
   clear hB hs hin hc hf hi hr e0 hz hok
   by_cases h0:n<0
   ·clear hr' hcl
    go_enter Tryz.func30,Tryz.ntmps30
    go_wp2_with (first
     | (refine wpList_load_mid rfl 41 _ rfl w.heap.size 0 rfl (machL M S) _ HB.out.c Tryz.underlying41 rfl zaa ?_)
     | (go_at_call 51;refine (zbr M S _ HS.out.lens HS.out HF.out HF2.out).mono ?_;rintro e w1 ⟨F,hFB,rfl,hmr,hBd,hb1⟩;have HB1:=hid hb1;have m72:=(HB.out.kept hb1).at 72 (.int .i64 M.clock) rfl;have z72:=(HB.out.kept hb1).z;clear hFB hmr hBd hb1)
     | (go_at_call 55;refine (Lk.checkInputs l _ w.heap.size M.clock _ (HIN.out.kept ((stp (stA (st0 w) _) HB1.out))) (stp (stA (st0 w) (.cells (machL M S).toArray 41)) HB1.out).size).mono ?_;rw [HC.out];rintro e w2 ⟨rfl,hb2⟩;have HB2:=hid hb2;have n72:=((HB.out.kept HB1.out).kept hb2).at 72 (.int .i64 M.clock) rfl;have y72:=((HB.out.kept HB1.out).kept hb2).z;clear hb2))
    go_ret2
    exact ⟨rfl,stp (stp (stA (st0 w) _) HB1.out) HB2.out⟩
   ·by_cases h1:20000<n
    ·have h0':0<=n:=by omega
     clear hr' hcl h0
     go_enter Tryz.func30,Tryz.ntmps30
     go_wp2_with (first
      | (refine wpList_load_mid rfl 41 _ rfl w.heap.size 0 rfl (machL M S) _ HB.out.c Tryz.underlying41 rfl zaa ?_)
      | (go_at_call 51;refine (zbr M S _ HS.out.lens HS.out HF.out HF2.out).mono ?_;rintro e w1 ⟨F,hFB,rfl,hmr,hBd,hb1⟩;have HB1:=hid hb1;have m72:=(HB.out.kept hb1).at 72 (.int .i64 M.clock) rfl;have z72:=(HB.out.kept hb1).z;clear hFB hmr hBd hb1)
      | (go_at_call 55;refine (Lk.checkInputs l _ w.heap.size M.clock _ (HIN.out.kept ((stp (stA (st0 w) _) HB1.out))) (stp (stA (st0 w) (.cells (machL M S).toArray 41)) HB1.out).size).mono ?_;rw [HC.out];rintro e w2 ⟨rfl,hb2⟩;have HB2:=hid hb2;have n72:=((HB.out.kept HB1.out).kept hb2).at 72 (.int .i64 M.clock) rfl;have y72:=((HB.out.kept HB1.out).kept hb2).z;clear hb2))
     go_ret2
     exact ⟨rfl,stp (stp (stA (st0 w) _) HB1.out) HB2.out⟩
    ·have h0':0<=n:=by omega
     have h1':n<=20000:=by omega
     have h2':200000<M.clock+n:=by omega
     have hwr:IntKind.i64.wrap (M.clock+n)=M.clock+n:=by rw [IntKind.wrap_i64];omega
     clear hr' h0 h1
     go_enter Tryz.func30,Tryz.ntmps30
     go_wp2_with (first
      | (refine wpList_load_mid rfl 41 _ rfl w.heap.size 0 rfl (machL M S) _ HB.out.c Tryz.underlying41 rfl zaa ?_)
      | (go_at_call 51;refine (zbr M S _ HS.out.lens HS.out HF.out HF2.out).mono ?_;rintro e w1 ⟨F,hFB,rfl,hmr,hBd,hb1⟩;have HB1:=hid hb1;have m72:=(HB.out.kept hb1).at 72 (.int .i64 M.clock) rfl;have z72:=(HB.out.kept hb1).z;clear hFB hmr hBd hb1)
      | (go_at_call 55;refine (Lk.checkInputs l _ w.heap.size M.clock _ (HIN.out.kept ((stp (stA (st0 w) _) HB1.out))) (stp (stA (st0 w) (.cells (machL M S).toArray 41)) HB1.out).size).mono ?_;rw [HC.out];rintro e w2 ⟨rfl,hb2⟩;have HB2:=hid hb2;have n72:=((HB.out.kept HB1.out).kept hb2).at 72 (.int .i64 M.clock) rfl;have y72:=((HB.out.kept HB1.out).kept hb2).z;clear hb2))
     go_ret2
     exact ⟨rfl,stp (stp (stA (st0 w) _) HB1.out) HB2.out⟩
  ·have e0:runErr M l n=chkIn l M.clock:=by unfold runErr;rw [if_pos hc,if_neg hi]
   rw [e0]
   obtain ⟨q,hq⟩:∃ q,chkIn l M.clock=q:=⟨_,rfl⟩
   have HC:=hid hq
   rw [hq] at hi ⊢
   have hi':(q != 0)=true:=by simpa using hi
   clear hB hs hin hc hf hr e0 hz hok hcl hq hi
   go_enter Tryz.func30,Tryz.ntmps30
   go_wp2_with (first
    | (refine wpList_load_mid rfl 41 _ rfl w.heap.size 0 rfl (machL M S) _ HB.out.c Tryz.underlying41 rfl zaa ?_)
    | (go_at_call 51;refine (zbr M S _ HS.out.lens HS.out HF.out HF2.out).mono ?_;rintro e w1 ⟨F,hFB,rfl,hmr,hBd,hb1⟩;have HB1:=hid hb1;have m72:=(HB.out.kept hb1).at 72 (.int .i64 M.clock) rfl;have z72:=(HB.out.kept hb1).z;clear hFB hmr hBd hb1)
    | (go_at_call 55;refine (Lk.checkInputs l _ w.heap.size M.clock _ (HIN.out.kept ((stp (stA (st0 w) _) HB1.out))) (stp (stA (st0 w) (.cells (machL M S).toArray 41)) HB1.out).size).mono ?_;rw [HC.out];rintro e w2 ⟨rfl,hb2⟩;have HB2:=hid hb2;have n72:=((HB.out.kept HB1.out).kept hb2).at 72 (.int .i64 M.clock) rfl;have y72:=((HB.out.kept HB1.out).kept hb2).z;clear hb2))
   go_ret2
   exact ⟨rfl,stp (stp (stA (st0 w) _) HB1.out) HB2.out⟩
 ·have e0:runErr M l n=M.chk:=by unfold runErr;rw [if_neg hc]
  rw [e0]
  have HCK:=hid hc
  obtain ⟨q,hq⟩:∃ q,M.chk=q:=⟨_,rfl⟩
  have hc':(q != 0)=true:=by rw [<- hq];simpa using hc
  have HQ:=hid hq
  rw [hq]
  clear hB hs hin hc hr e0 hz hok hq
  go_enter Tryz.func30,Tryz.ntmps30
  go_wp2_with (first
   | (refine wpList_load_mid rfl 41 _ rfl w.heap.size 0 rfl (machL M S) _ HB.out.c Tryz.underlying41 rfl zaa ?_)
   | (go_at_call 51;refine (ziv M S _ HS.out.lens HZ.out HCK.out).mono ?_;rw [HQ.out];rintro e w1 ⟨rfl,hb1⟩;have HB1:=hid hb1;clear hb1))
  go_ret2
  exact ⟨rfl,stp (stA (st0 w) _) HB1.out⟩
theorem zaj:(Tryz.prog.info? 50).map (·.size)=some 3:=by kernel_rfl
section
variable {F : Fx} {N c : Nat} {vco vln vsm vw v4 : Value} {w w1 : World} {k : Cs} {L1 L2 : List Value} {Y : World}
theorem zay {t:TypeId} {z:Nat} {v:Value} {n:Nat} {xs:List Value} {B:Nat} (h:w.ownsRow B t z v n xs):∃ a n c,v = .slice a n c:=by
 rcases h.2 with ⟨e0,_⟩|⟨g,cap,cur,e0,_⟩
 ·exact ⟨_,_,_,e0⟩
 ·exact ⟨_,_,_,e0⟩
structure DW (F : Fx) (N c : Nat) (vco vln vsm vw v4 : Value) (k : Cs) (w : World) (L1 L2 : List Value) (Y : World) : Prop where
 low:Below F.B w Y
 big:F.B<=w.heap.size
 bd:Bd F Y k.s.M ⟨k.s.n,k.s.l,vw⟩
 ln:Y.ownsRow N 62 18 vln k.ln.length (lcs k.ln)
 sm:Y.ownsRow N 5 1 vsm k.sm.length (bcs k.sm)
 cc:Bx Y c [pt F.g 0,vco,vln,vsm,v4,pt F.g 0]
 b1:Bx Y w.heap.size L1
 b2:Bx Y (w.heap.size+1) L2
 into:F.into N
 hc:N<=c/\c<w.heap.size/\F.B<=c
 lo:∀ j,(vw.ownBlock=some j \/ vln.ownBlock=some j \/ vsm.ownBlock=some j)->j<w.heap.size/\j≠c
theorem DW.s (h:DW F N c vco vln vsm vw vw k w L1 L2 Y):Y.cell? ⟨c,0,none⟩=some (pt F.g 0)/\Y.rangeAt F.g 0 (machL k.s.M F.S)/\Y.rangeAt c 2 [vln,vsm,vw] :=
 ⟨h.cc.at 0 _ rfl,h.bd.row,λi v hi=>by
   have hl:=(List.getElem?_eq_some_iff.1 hi).1
   have hc:i=0 \/ i=1 \/ i=2:=by simp at hl;omega
   rcases hc with rfl|rfl|rfl <;> exact h.cc.at _ _ hi⟩
theorem DW.kept (h:DW F N c vco vln vsm vw v4 k w L1 L2 Y) (hb:Below Y.heap.size Y w1):DW F N c vco vln vsm vw v4 k w L1 L2 w1 :=
 ⟨h.low.trans (hb.mono (Nat.le_trans h.big h.low.size)),h.big,h.bd.kept hb,zaF h.ln (λj e=>hb.block j (zaI h.ln j e).2.1),zaF h.sm (λj e=>hb.block j (zaI h.sm j e).2.1),h.cc.kept hb,h.b1.kept hb,h.b2.kept hb,h.into,h.hc,h.lo⟩
theorem DW.far {b o:Nat} {vs:List Value} (h:DW F N c vco vln vsm vw v4 k w L1 L2 Y) (hb:N<=b) (hn:∀ j,(vw.ownBlock=some j \/ vln.ownBlock=some j \/ vsm.ownBlock=some j)->j≠b) :
 Bd F (Y.setCells b o vs) k.s.M ⟨k.s.n,k.s.l,vw⟩/\(Y.setCells b o vs).ownsRow N 62 18 vln k.ln.length (lcs k.ln)/\(Y.setCells b o vs).ownsRow N 5 1 vsm k.sm.length (bcs k.sm) :=
 ⟨h.bd.same h.into (Nat.le_of_eq (zaQ _ _ _ _).symm) (λj hj=>zad (by omega) _ _ _) (λj e=>zad (hn j (Or.inl e)) _ _ _),zaF h.ln (λj e=>zad (hn j (Or.inr (Or.inl e))) _ _ _),zaF h.sm (λj e=>zad (hn j (Or.inr (Or.inr e))) _ _ _)⟩
theorem DW.bb {b o:Nat} {vs L:List Value} {b':Nat} (h:Bx Y b' L) (hn:b'≠b):Bx (Y.setCells b o vs) b' L:=h.same (Nat.le_of_eq (zaQ _ _ _ _).symm) (zad hn _ _ _)
theorem zaC {B:Nat} {a:World}:∀ {w:World} {b:Nat},Below B a w->B<=b->∀ (vs:List Value) (o:Nat),Below B a (w.setCells b o vs)
 | w,b,h,hb,[],o=>h
 | w,b,h,hb,v::vs,o=>zaC (h.setCell (p:=⟨b,o,none⟩) hb v) hb vs (o+1)
theorem DW.set4 (h:DW F N c vco vln vsm vw v4 k w L1 L2 Y):DW F N c vco vln vsm vw vw k w L1 L2 (Y.setCell ⟨c,4,none⟩ vw):=by
 obtain ⟨c1,c2,c3⟩:=h.hc
 obtain ⟨f1,f2,f3⟩:=h.far (b:=c) (o:=4) (vs:=[vw]) c1 (λj hj=>(h.lo j hj).2)
 exact ⟨h.low.setCell c3 _,h.big,f1,f2,f3,h.cc.set 4 vw (by simp),DW.bb (o:=4) (vs:=[vw]) h.b1 (by omega),DW.bb (o:=4) (vs:=[vw]) h.b2 (by omega),h.into,h.hc,h.lo⟩
theorem DW.put1 (h:DW F N c vco vln vsm vw v4 k w (machL zeroM nilS) L2 Y):DW F N c vco vln vsm vw v4 k w (machL k.s.M F.S) L2 (Y.setCells w.heap.size 0 (machL k.s.M F.S)):=by
 obtain ⟨c1,c2,c3⟩:=h.hc
 obtain ⟨f1,f2,f3⟩:=h.far (b:=w.heap.size) (o:=0) (vs:=machL k.s.M F.S) (by omega) (λj hj=>by have:=(h.lo j hj).1;omega)
 have hx:=h.b1.puts 0 (machL k.s.M F.S) (by rw [zae,zae];omega)
 rw [zau _ _ (by rw [zae,zae])] at hx
 exact ⟨zaC h.low h.big _ _,h.big,f1,f2,f3,DW.bb h.cc (by omega),hx,DW.bb h.b2 (by omega),h.into,h.hc,h.lo⟩
theorem DW.put2 {x y z:Value} (h:DW F N c vco vln vsm vw v4 k w L1 [x,y,z] Y):DW F N c vco vln vsm vw v4 k w L1 [vln,vsm,vw] (Y.setCells (w.heap.size+1) 0 [vln,vsm,vw]):=by
 obtain ⟨c1,c2,c3⟩:=h.hc
 obtain ⟨f1,f2,f3⟩:=h.far (b:=w.heap.size+1) (o:=0) (vs:=[vln,vsm,vw]) (by omega) (λj hj=>by have:=(h.lo j hj).1;omega)
 have hx:=h.b2.puts 0 [vln,vsm,vw] (by simp)
 rw [zau _ _ (by simp)] at hx
 exact ⟨zaC h.low (by have:=h.big;omega) _ _,h.big,f1,f2,f3,DW.bb h.cc (by omega),DW.bb h.b1 (by omega),hx,h.into,h.hc,h.lo⟩
structure Told (F : Fx) (N : Nat) (k : Cs) (vln vsm vw : Value) (w' : World) : Prop where
 sl:SlAt w' F.S k.s.M
 fit:k.s.M.fit
 ln:w'.ownsRow N 62 18 vln k.ln.length (lcs k.ln)
 sm:w'.ownsRow N 5 1 vsm k.sm.length (bcs k.sm)
 ws:w'.ownsRow F.B 66 3 vw k.s.l.length (wcs k.s.l)
theorem Lk.done (hF:Fb F N) (h:CI F N c vco vln vsm w k):Calls Tryz.prog 34 #[pt c 0] w λe w'=>∃ vw,e = .returned (.tuple #[.agg (machL k.s.M F.S).toArray,.agg #[vln,vsm,vw]])/\Told F N k vln vsm vw w'/\Below F.B w w':=by
 obtain ⟨vw,hB⟩:=h.i.bd
 obtain ⟨a2,n2,c2,e2⟩:=zay h.ln
 obtain ⟨a3,n3,c3,e3⟩:=zay h.sm
 obtain ⟨a4,n4,c4,e4⟩:=zay hB.ws
 have e4':vw = .slice a4 n4 c4:=e4
 have HSI:Hid F.S.isSl:=hB.isSl
 have hbig:=h.i.big
 have h0:DW F N c vco vln vsm vw (.slice none 0 0) k w (machL zeroM nilS) [.slice none 0 0,.slice none 0 0,.slice none 0 0] ((w.alloc (.cells (machL zeroM nilS).toArray 41)).alloc (.cells #[.slice none 0 0,.slice none 0 0,.slice none 0 0] 50)):=by
  have hb:=stA (stA (st0 w) (.cells (machL zeroM nilS).toArray 41)) (.cells #[.slice none 0 0,.slice none 0 0,.slice none 0 0] 50)
  have hci:=h.keep hF hb
  refine ⟨hb.mono hbig,hbig,hB.kept hb,hci.ln,hci.sm,hci.cb.bx,(Bx.new w (machL zeroM nilS) 41 (b:=w.heap.size) rfl).over _,Bx.new (w.alloc (.cells (machL zeroM nilS).toArray 41)) [.slice none 0 0,.slice none 0 0,.slice none 0 0] 50 (b:=w.heap.size+1) (by simp),hF.into,⟨h.cb.n,h.cb.z,h.big hF⟩,λj hj=>?_⟩
  rcases hj with hj|hj|hj
  ·obtain ⟨cs,fr,hx⟩:=hB.wty j hj
   refine ⟨(Array.getElem?_eq_some_iff.1 hx).1,λe=>?_⟩
   rw [e,h.cb.blk] at hx
   simp only [Option.some.injEq,Obj.cells.injEq] at hx
   exact absurd hx.2.1 (by decide)
  ·exact ⟨(zaI h.ln j hj).2.1,λe=>zbi h.ln h.cb.blk (by decide) (by rw [hj,e])⟩
  ·exact ⟨(zaI h.sm j hj).2.1,λe=>zbi h.sm h.cb.blk (by decide) (by rw [hj,e])⟩
 subst e2 e3 e4'
 have H0:=hid h0
 clear hF h hB e4 h0 hbig
 go_enter Tryz.func34,Tryz.ntmps34
 go_upto_region 1 with fail
 refine Pl.cutW (DW F N c vco (.slice a2 n2 c2) (.slice a3 n3 c3) (.slice a4 n4 c4) (.slice none 0 0) k w (machL zeroM nilS) [.slice none 0 0,.slice none 0 0,.slice none 0 0]) H0.out ?_
 intro Y0 hY0
 have k5:=hY0.cc.at 5 _ rfl
 have k4:=hY0.cc.at 4 _ rfl
 have kz:=hY0.cc.z
 have kf:=hY0.cc.f 4
 have m76:=hY0.bd.at 76 (.slice a4 n4 c4) rfl
 have mz:=hY0.bd.bx.z
 have HY0:=hid hY0
 clear hY0 H0
 go_upto_region 2 with fail
 refine Pl.cutW (DW F N c vco (.slice a2 n2 c2) (.slice a3 n3 c3) (.slice a4 n4 c4) (.slice a4 n4 c4) k w (machL zeroM nilS) [.slice none 0 0,.slice none 0 0,.slice none 0 0]) HY0.out.set4 ?_
 intro Y1 hY1
 have HY:=hid (hY1.kept (st0 Y1).drew)
 clear hY1 HY0 k5 k4 kz kf m76 mz
 refine wp_region_held_drew (S:=λw'=>w'.cell? ⟨c,0,none⟩=some (pt F.g 0)/\w'.rangeAt F.g 0 (machL k.s.M F.S)/\w'.rangeAt c 2 [.slice a2 n2 c2,.slice a3 n3 c3,.slice a4 n4 c4]) (by kernel_rfl) (HY.out.s) ?_
 intro hS
 refine tqH 0 ⟨some 15,_,_,_,_,none⟩ hS ?_
 simp only [Act.put,xA,xB,xC]
 refine tqH 1 ⟨some 16,_,_,_,_,none⟩ hS ?_
 simp only [Act.put,xA,xB,xC]
 refine tqH 2 ⟨some 17,_,_,_,_,none⟩ hS ?_
 simp only [Act.put,xA,xB,xC]
 refine tqH 6 ⟨some 21,_,_,_,_,none⟩ hS ?_
 simp only [Act.put,xA,xB,xC]
 refine tqH 7 ⟨some 22,_,_,_,_,none⟩ hS ?_
 simp only [Act.put,xA,xB,xC]
 refine tqH 8 ⟨some 23,_,_,_,_,none⟩ hS ?_
 simp only [Act.put,xA,xB,xC]
 refine wpAnyH_take (i:=3) (oi:=⟨some 18,_,_,_,_,none⟩) (v:=pt F.g 0) rfl (by kernel_rfl) (by kernel_rfl) (by kernel_rfl) (λ_ _ _ h=>h) (Or.inl ⟨by rfl,?_⟩) hS ?_
 ·intro w' hSw
  have hcc:=hSw.1
  have hcz:=World.block_lt_of_cell? w' _ hcc
  go_simp
  try (with_reducible rfl)
 simp only [Act.put,xA,xB,xC]
 refine tqH 4 ⟨some 19,_,_,_,_,none⟩ hS ?_
 simp only [Act.put,xA,xB,xC]
 refine wpAnyH_take (i:=5) (oi:=⟨some 20,_,_,_,_,none⟩) (v:=.agg (machL k.s.M F.S).toArray) rfl (by kernel_rfl) (by kernel_rfl) (by kernel_rfl) (λ_ _ _ h=>h) (Or.inl ⟨by rfl,λw' hSw=>zaf 41 _ rfl F.g 0 rfl (machL k.s.M F.S) _ hSw.2.1 Tryz.underlying41 rfl zaa⟩) hS ?_
 simp only [Act.put,xA,xB,xC]
 refine wpAnyH_take (i:=9) (oi:=⟨some 24,_,_,_,_,none⟩) (v:=.agg ([.slice a2 n2 c2,.slice a3 n3 c3,.slice a4 n4 c4]).toArray) rfl (by kernel_rfl) (by kernel_rfl) (by kernel_rfl) (λ_ _ _ h=>h) (Or.inl ⟨by rfl,λw' hSw=>zaf 50 _ rfl c 2 rfl ([.slice a2 n2 c2,.slice a3 n3 c3,.slice a4 n4 c4]) _ hSw.2.2 Tryz.underlying50 rfl zaj⟩) hS ?_
 simp only [Act.put,xA,xB,xC]
 have HY1:=hid HY.out.put1
 refine zaS (i:=10) (op:=⟨none,_,_,_,_,none⟩) (by kernel_rfl) rfl rfl 41 _ _ rfl w.heap.size 0 (machL k.s.M F.S).toArray rfl rfl (HY.out.b1.there 0 75 (by rw [zae];omega)) zaa (zaw _ _ HSI.out) HY1.out.s ?_
 have HY2:=hid HY1.out.put2
 have hth:=HY1.out.b2.there 0 3 (by simp)
 have hone:(([.slice a2 n2 c2,.slice a3 n3 c3,.slice a4 n4 c4]:List Value)).toArray.all (·.oneCell')=true:=by simp [Value.oneCell']
 have hss:=HY2.out.s
 clear hS
 refine zaS (i:=11) (op:=⟨none,_,_,_,_,none⟩) (by kernel_rfl) rfl rfl 50 _ _ rfl (w.heap.size+1) 0 #[.slice a2 n2 c2,.slice a3 n3 c3,.slice a4 n4 c4] rfl rfl hth zaj hone hss ?_
 refine wpAnyH_done (by kernel_rfl) ?_ _
 refine Pl.cutE (DW F N c vco (.slice a2 n2 c2) (.slice a3 n3 c3) (.slice a4 n4 c4) (.slice a4 n4 c4) k w (machL k.s.M F.S) [.slice a2 n2 c2,.slice a3 n3 c3,.slice a4 n4 c4]) HY2.out ?_
 intro V hV
 have HV:=hid hV
 clear hV HY HY1 HY2 hth hone hss
 go_wp2
 refine bodyPost_ret (v:=.tuple #[.agg (machL k.s.M F.S).toArray,.agg #[.slice a2 n2 c2,.slice a3 n3 c3,.slice a4 n4 c4]]) ?_ rfl ⟨_,rfl,⟨HV.out.bd.slAt,HV.out.bd.fit,HV.out.ln,HV.out.sm,HV.out.bd.ws⟩,HV.out.low⟩
 have l1:=run_loadVar_mid V w.heap.size 0 41 _ _ HV.out.b1.c Tryz.underlying41 rfl zaa
 have l2:=run_loadVar_mid V (w.heap.size+1) 0 50 _ _ HV.out.b2.c Tryz.underlying50 rfl zaj
 simp only [results,Tryz.results34]
 simp
 show (Result.andThen (Sem.run Tryz.prog (loadVar 41 ⟨w.heap.size,0,none⟩) V) _)=_
 rw [l1]
 show (Result.andThen (Sem.run Tryz.prog (loadVar 50 ⟨w.heap.size+1,0,none⟩) V) _)=_
 rw [l2]
 rfl
end
theorem zfh (M:Mach):∀ k,(M.xfer k).clock=M.clock
 | 0=>rfl
 | k+1=>zfh M k
theorem zmF (M:Mach) (a:Int):(M.rdM a).2.clock=M.clock:=by
 unfold Mach.rdM
 split
 ·unfold Mach.portM
  split <;> rfl
 ·rfl
theorem zmG (M:Mach) (a:Int):(M.rdA a).2.clock=M.clock:=by
 unfold Mach.rdA
 split
 ·unfold Mach.portA
  split <;> rfl
 ·rfl
theorem ziA (M:Mach) (n:Int):(M.letGo n).clock=M.clock:=by
 unfold Mach.letGo
 split <;> rfl
theorem zmH (M:Mach) (a n:Int):(M.wrM a n).clock=M.clock:=by
 unfold Mach.wrM
 split
 ·unfold Mach.putM
  split
  all_goals first
   | rfl
   | exact zfh _ _
   | exact ziA _ _
 ·unfold Mach.memM
  split
  ·rfl
  ·split
   ·rfl
   ·split <;> rfl
theorem zmI (M:Mach) (a n:Int):(M.wrA a n).clock=M.clock:=by
 unfold Mach.wrA
 split
 ·unfold Mach.putA
  split
  ·rfl
  ·split <;> rfl
 ·unfold Mach.memA
  split
  ·rfl
  ·split
   ·rfl
   ·split
    ·split <;> rfl
    ·rfl
theorem zbd (s:Bst):s.stepMain.M.clock=s.M.clock:=by
 unfold Bst.stepMain
 split
 ·rfl
 ·show (C.step mainMem s.M.main ⟨s.M,0,s.l⟩ (s.M.t.g || s.M.b.g)).s.M.clock=s.M.clock
  exact C.keeps_step (m:=mainMem) (P:=λx=>x.M.clock=s.M.clock) (λx a h=>(zmF x.M a).trans h) (λx a b h=>(zmH x.M a _).trans h) _ _ _ rfl
theorem zbX (s:Bst):s.stepAux.M.clock=s.M.clock:=by
 unfold Bst.stepAux
 split
 ·rfl
 ·show (C.step auxMem s.M.aux s s.M.rung).s.M.clock=s.M.clock
  exact C.keeps_step (m:=auxMem) (P:=λx=>x.M.clock=s.M.clock) (λx a h=>(zmG x.M a).trans h) (λx a b h=>(zmI x.M a _).trans h) _ _ _ rfl
theorem zcX:∀ (l:List Inp) (M:Mach),(M.pressed l).clock=M.clock
 | [],M=>rfl
 | x::l,M=>by
  unfold Mach.pressed
  split
  ·rw [zcX l,zcy]
  ·rfl
theorem zmJ (M:Mach):M.line.length<=1:=by
 unfold Mach.line
 split <;> simp
theorem zd8 (M:Mach):M.sample.length<=1:=by
 unfold Mach.sample
 split
 ·exact zgd _ 1
 ·simp
structure Cs.at (k0 k : Cs) (j : Nat) : Prop where
 clock:k.s.M.clock=k0.s.M.clock+j
 ln:k.ln.length<=k0.ln.length+j
 sm:k.sm.length<=k0.sm.length+j
 l:k.s.l.length<=k0.s.l.length+4*j
theorem za9 (k:Cs):k.now.s.M.clock=k.s.M.clock:=by
 show ((Bst.stepMain ⟨k.s.M.pressed k.co,k.s.n,k.s.l⟩).stepAux).M.clock=_
 rw [zbX,zbd]
 exact zcX _ _
theorem zd9 {F:Fx} {N:Nat} (hF:Fb F N) (k0:Cs) (h0:k0.s.l.length<=100):∀ j:Nat,j<=20000->Cs.at k0 (k0.clocks j) j
 | 0,_=>⟨by simp [Cs.clocks],by simp [Cs.clocks],by simp [Cs.clocks],by simp [Cs.clocks]⟩
 | j+1,hj=>by
  have ih:=zd9 hF k0 h0 j (by omega)
  obtain ⟨k,hk⟩:∃ k,k=k0.clocks j:=⟨_,rfl⟩
  have e:k0.clocks (j+1)=k.clock:=by rw [hk];rfl
  rw [<- hk] at ih
  rw [e]
  obtain ⟨i1,i2,i3,i4⟩:=ih
  refine ⟨?_,?_,?_,?_⟩
  ·show k.now.s.M.clock+1=_
   rw [za9,i1];push_cast;omega
  ·show (k.ln++(k.s.M.pressed k.co).line).length<=_
   have:=zmJ (k.s.M.pressed k.co)
   rw [List.length_append];omega
  ·show (k.sm++(k.s.M.pressed k.co).sample).length<=_
   have:=zd8 (k.s.M.pressed k.co)
   rw [List.length_append];omega
  ·show ((Bst.stepMain ⟨k.s.M.pressed k.co,k.s.n,k.s.l⟩).stepAux).l.length<=_
   have h1:(Bst.stepMain ⟨k.s.M.pressed k.co,k.s.n,k.s.l⟩).l=k.s.l:=zda _
   have h2:=zmE hF (Bst.stepMain ⟨k.s.M.pressed k.co,k.s.n,k.s.l⟩) (by rw [h1];omega)
   rw [h1] at h2
   omega
end Go.Proofs.YtbennamieealbaaGreatDoor
