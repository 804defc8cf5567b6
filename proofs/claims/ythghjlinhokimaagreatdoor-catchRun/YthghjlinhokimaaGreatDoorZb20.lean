/-
  Parts of a proof, joined.
-/
import Derived.Test.YthghjlinhokimaaGreatDoorZbA
import Derived.Test.YthghjlinhokimaaGreatDoorZb15
import Derived.Test.YthghjlinhokimaaGreatDoorZb14
set_option linter.all false
set_option maxRecDepth 100000
set_option maxHeartbeats 6400000
open Go renaming World->u,Value->π,Calls->Δ,binOp->fG
open Bool renaming false->ξ
open Go.Proofs.Tryz renaming prog->ω
open Or renaming inl->aj,inr->ao
open Go.Value renaming int->J,bool->ν,agg->ac,nilFunc->aI
open Go.IntKind renaming i64->Q,u16->Y,u8->au
open Go.Ending renaming returned->μ
namespace Go.Proofs.YthghjlinhokimaaGreatDoor
open Go.ChangeShapes Go.WideShapes Go.ChangeAt Go.RowKit Go.Proofs.Tryz
section
variable {F : Fx} {W : u} {M M' : Mach} {tk tk' : Tk}
theorem yI(n:Nat)(a b:Array π)(w:u):(fG .eql 134 (.func (.func n) a b) aI).run ω w=.ok (ν ξ) w:=by kernel_rfl
theorem B8(w:u):(fG .eql 134 aI aI).run ω w=.ok (ν true) w:=by kernel_rfl
theorem pp(vw:π)(h:Bd F W M tk):Δ ω 213 #[ac #[aI,vw]] W λe w'=>e=μ (J au 255)/\Bd F w' M tk/\Bt F W w':=by
 have a:=B8;have H:=hid h;clear h;go_enter func213,ntmps213;go_wp2;go_ret;exact⟨D,H.out.over _,Mv.of_below H.out.big (stA (aR _) _)⟩
theorem zfQ(g:Nat)(a:∀(x:Array π) (w:u),(callFunc g x).run ω w=.ok (.enter g x) w)(vw:π)(x:Int)(h:Bd F W M tk)(hc:∀ W,Bd F W M tk->Δ ω g #[pt F.g 0] W λe w'=>e=μ (J au x)/\Bd F w' M' tk/\Bt F W w'):Δ ω 213 #[ac #[ik g F.g 0,vw]] W λe w'=>e=μ (J au x)/\Bd F w' M' tk/\Bt F W w':=by
 have d:∀ w:u,(fG .eql 134 (ik g F.g 0) aI).run ω w=.ok (ν ξ) w:=λw=>yI _ _ _ w
 have H:=hid h;have b:=hid hc;clear h hc;go_enter func213,ntmps213;go_wp2_with (refine(b.out _ (H.out.over _)).mono ?_;rintro e w1 ⟨rfl,hB,c⟩)
 go_ret;exact⟨D,hB,Mv.trans (Mv.of_below H.out.big (stA (aR _) _)) c⟩
theorem zjE(g:Nat)(a:∀(x:Array π) (w:u),(callFunc g x).run ω w=.ok (.enter g x) w)(vw:π)(x:Int)(h:Bd F W M tk)(hc:∀ W,Bd F W M tk->Δ ω g #[pt F.E.mb 0] W λe w'=>e=μ (J au x)/\Bd F w' M' tk/\Bt F W w'):Δ ω 213 #[ac #[fh g #[pt F.E.mb 0],vw]] W λe w'=>e=μ (J au x)/\Bd F w' M' tk/\Bt F W w':=by
 have d:∀ w:u,(fG .eql 134 (fh g #[pt F.E.mb 0]) aI).run ω w=.ok (ν ξ) w:=λw=>yI _ _ _ w
 have H:=hid h;have b:=hid hc;clear h hc;go_enter func213,ntmps213;go_wp2_with (refine(b.out _ (H.out.over _)).mono ?_;rintro e w1 ⟨rfl,hB,c⟩)
 go_ret;exact⟨D,hB,Mv.trans (Mv.of_below H.out.big (stA (aR _) _)) c⟩
theorem zlx(vw:π)(x:Int)(q v:Nat)(h:Bd F W M tk)(hc:∀ W,Bd F W M tk->Δ ω 239 #[pt q 0,pt v 0] W λe w'=>e=μ (J au x)/\Bd F w' M' tk/\Bt F W w'):Δ ω 213 #[ac #[fh 239 #[pt q 0,pt v 0],vw]] W λe w'=>e=μ (J au x)/\Bd F w' M' tk/\Bt F W w':=by
 have c:∀ w:u,(fG .eql 134 (fh 239 #[pt q 0,pt v 0]) aI).run ω w=.ok (ν ξ) w:=λw=>yI _ _ _ w
 have H:=hid h;have a:=hid hc;clear h hc;go_enter func213,ntmps213;go_wp2_with (go_at_call 239;refine(a.out _ (H.out.over _)).mono ?_;rintro e w1 ⟨rfl,hB,b⟩)
 go_ret;exact⟨D,hB,Mv.trans (Mv.of_below H.out.big (stA (aR _) _)) b⟩
theorem zwh(i:Nat)(hi:i<32):Be F M tk i:=by
 intro W h;have hc:i=0 \/ i=1 \/ i=2 \/ i=3 \/ i=4 \/ i=5 \/ i=6 \/ i=7 \/ i=8 \/ i=9 \/ i=10 \/ i=11 \/ i=12 \/ i=13 \/ i=14 \/ i=15 \/ i=16 \/ i=17 \/ i=18 \/ i=19 \/ i=20 \/ i=21 \/ i=22 \/ i=23 \/ i=24 \/ i=25 \/ i=26 \/ i=27 \/ i=28 \/ i=29 \/ i=30 \/ i=31:=by omega
 rcases hc with rfl|rfl|rfl|rfl|rfl|rfl|rfl|rfl|rfl|rfl|rfl|rfl|rfl|rfl|rfl|rfl|rfl|rfl|rfl|rfl|rfl|rfl|rfl|rfl|rfl|rfl|rfl|rfl|rfl|rfl|rfl|rfl
 ·exact zlx _ _ _ _ h (λW h=>ztB h)
 ·exact zlx _ _ _ _ h (λW h=>ztC h)
 ·exact pp _ h
 ·exact pp _ h
 ·exact zfQ _ (λ_ _=>D) _ _ h (λW h=>zrj h)
 ·exact pp _ h
 ·exact zjE _ (λ_ _=>D) _ _ h (λW h=>ztv h)
 ·exact zjE _ (λ_ _=>D) _ _ h (λW h=>zy0 h)
 ·exact zfQ _ (λ_ _=>D) _ _ h (λW h=>ztu h)
 ·exact pp _ h
 ·exact pp _ h
 ·exact pp _ h
 ·exact pp _ h
 ·exact pp _ h
 ·exact pp _ h
 ·exact pp _ h
 ·exact zfQ _ (λ_ _=>D) _ _ h (λW h=>zwg h)
 ·exact zjE _ (λ_ _=>D) _ _ h (λW h=>ztw h)
 ·exact pp _ h
 ·exact pp _ h
 ·exact pp _ h
 ·exact pp _ h
 ·exact pp _ h
 ·exact pp _ h
 ·exact pp _ h
 ·exact pp _ h
 ·exact pp _ h
 ·exact pp _ h
 ·exact pp _ h
 ·exact pp _ h
 ·exact pp _ h
 ·exact pp _ h
theorem zwi(i:Nat)(hi:i<32):Bf F M tk i:=by
 intro W h;unfold Fx.rdA Mach.portA;by_cases e:i=24
 ·rw[am e,am e]
  exact zfQ _ (λ_ _=>D) _ _ h (λW h=>ztx h)
 ·rw[ae e,ae e]
  exact pp _ h
end
theorem zcZ(s:Sd)(N:Nat)(w:u)(h:s.fit)(hn:N<=20000):Δ ω 64 #[(ac #[J Y s.a.p,J Y s.a.c,J au s.a.l,ν s.a.h,J Y s.a.n,J Y s.b.p,J Y s.b.c,J au s.b.l,ν s.b.h,J Y s.b.n,J Y s.c.p,J Y s.c.c,J au s.c.l,ν s.c.h,J Y s.c.n,J Q s.w]),J Q N] w λe w'=>∃ v,e=μ (.tuple #[v,(ac #[J Y (s.ticks N).a.p,J Y (s.ticks N).a.c,J au (s.ticks N).a.l,ν (s.ticks N).a.h,J Y (s.ticks N).a.n,J Y (s.ticks N).b.p,J Y (s.ticks N).b.c,J au (s.ticks N).b.l,ν (s.ticks N).b.h,J Y (s.ticks N).b.n,J Y (s.ticks N).c.p,J Y (s.ticks N).c.c,J au (s.ticks N).c.l,ν (s.ticks N).c.h,J Y (s.ticks N).c.n,J Q (s.ticks N).w]),J Q 0])/\sliceAt w' v (lB s N)/\(∀ k,v.ownBlock=some k->w.heap.size+2<=k)/\Below w.heap.size w w':=by
 have hm:=zyB N;rw[aO (show 0<=(N:Int)/\(N:Int)<=20000 by omega)] at hm;have i0:=yE;have i1:=yF;have i2:=yH;go_enter func64,ntmps64;go_wp2_with (first
  | (go_at_call 117;refine(zik s _ h.w).mono ?_;rintro e w0 ⟨rfl,hb0⟩)
  | (go_at_call 118;refine(hm _).mono ?_;rintro e w9 ⟨rfl,rfl⟩))
 have HS0:Hid (SmW w s [] (.slice none 0 0) w0):=(⟨stA (stA (aR w) _) _,(Bx.new w (lz s) _ D).over _,Bx.new _ zs _ (by simp),⟨D,aj ⟨D,D⟩⟩⟩:SmW w s [] (.slice none 0 0) _).kept hb0;clear hb0 hm;go_loopw [1,4] (λn v wr=>∃ k:Nat,k<=N/\n=J Q (N-k:Int)/\SmW w (s.ticks k) (lB s k) v wr) (λn _ _=>(intOf n).toNat)
 case atStart=>exact⟨0,bh _,by simp,HS0.out⟩
 case round =>
  clear HS0;obtain⟨k,hk,rfl,P⟩:=hrel;have HF:=hid (Sd.ticks_fit h k);have HL:=hid (zjt s k);by_cases h8:k<N
  ·have h8':(0:Int)<(N:Int)-k:=by omega
   have hwt:=BO HF.out;obtain⟨m,hm0⟩:∃ m:Int,m=min ((N:Int)-k) (wt (s.ticks k)):=⟨_,D⟩
   have hmm:0<=m/\m<=20000:=by omega
   have hm1:1<=m:=by omega
   have hm2:m<=wt (s.ticks k):=by omega
   have hm3:m<=(N:Int)-k:=by omega
   generalize hx:s.ticks k=x at *;generalize hL:lB s k=L at *;have HX:=hid hx;have HLL:=hid hL;clear hx hL;have HA:=hid P;obtain⟨c0,c1,c2,c3,c4,c5,T,U,V,c9,t,y,B,E,F,q⟩:=P.all;have M:=P.b.z;have tf:=P.b.f;have l3:=xF P.b;clear P;by_cases hz:x.w=0
   ·
    have H:wt x=16:=by unfold wt;rw[am hz]
    have R:one x=[sm x]:=by unfold one;rw[am hz]
    have HO:=hid R;have HW0:=hid H;rw[H] at hm0;have HM0:=hid hm0;have hsm:=(zxW x).symm;have HLB:Hid (L.length<=50000):=by have:=HL.out;exact ax this (by omega)
    have HSM:=hid hsm;have HZ:=hid hz;clear R H hsm hm0;rw[hz] at q;clear hz;go_wp2_with (first
     | (go_at_call 119;refine(zq6 x _ HF.out.k).mono ?_;rintro e w3 ⟨rfl,hb3⟩;have HA3:=hid (HA.out.kept hb3);have Z:=hid (HA3.out.over (.cells #[J au (pK x)] 5)))
     | (at_builtin;refine app1 (by rfl) _ _ (by rfl) (w.heap.size+2) _ L (by rfl) Z.out.o w3.heap.size 1 (sm x) (pK x) (by rfl) (Pl.new _ _ _ _ D) HSM.out HLB.out Z.out.r.z ?_;intro v' w' hown' hb';have HA4:=hid (Z.out.app hb' hown');obtain⟨c0,c1,c2,c3,c4,c5,T,U,V,c9,t,y,B,E,F,q⟩:=HA4.out.all;have M:=HA4.out.b.z;have tf:=HA4.out.b.f;have l3':=xF (HA4.out.wait 16).b))
    rw[<- HM0.out];go_loopw [39] (λi wr=>(i=J Q 0/\SmW w ⟨x.a,x.b,x.c,wt x⟩ (L++one x) v' wr) \/ (i=J Q 1/\SmW w ⟨x.a.later m,x.b,x.c,wt x⟩ (L++one x) v' wr) \/ (i=J Q 2/\SmW w ⟨x.a.later m,x.b.later m,x.c,wt x⟩ (L++one x) v' wr) \/ (i=J Q 3/\SmW w ⟨x.a.later m,x.b.later m,x.c.later m,wt x⟩ (L++one x) v' wr)) (λi _=>3-(intOf i).toNat)
    case atStart=>exact aj ⟨D,by rw[HO.out,HW0.out];exact HA4.out.wait 16⟩
    case round =>
     clear HA HA3 HA4 Z l3 l3' c0 c1 c2 c3 c4 c5 T U V c9 t y B E F q M tf hown' hb' hb3;rcases hrel with⟨rfl,j⟩|⟨rfl,j⟩|⟨rfl,j⟩|⟨rfl,j⟩
     ·obtain⟨c0,c1,c2,c3,c4,c5,T,U,V,c9,t,y,B,E,F,q⟩:=j.all
      have M:=j.b.z;have tf:=j.b.f;have X:=hid j;clear j;go_wp2_with (go_at_call 120;refine(tb x.a m _ HF.out.a hmm).mono ?_;rintro e w5 ⟨rfl,I⟩;have d:=hid ((X.out.over _).kept I);obtain⟨c0,c1,c2,c3,c4,c5,T,U,V,c9,t,y,B,E,F,q⟩:=d.out.all;have M:=d.out.b.z;have tf:=d.out.b.f)
      exact⟨ao (aj ⟨D,d.out.v0 _⟩),by decide⟩
     ·obtain⟨c0,c1,c2,c3,c4,c5,T,U,V,c9,t,y,B,E,F,q⟩:=j.all
      have M:=j.b.z;have tf:=j.b.f;have X:=hid j;clear j;go_wp2_with (go_at_call 120;refine(tb x.b m _ HF.out.b hmm).mono ?_;rintro e w5 ⟨rfl,I⟩;have d:=hid ((X.out.over _).kept I);obtain⟨c0,c1,c2,c3,c4,c5,T,U,V,c9,t,y,B,E,F,q⟩:=d.out.all;have M:=d.out.b.z;have tf:=d.out.b.f)
      exact⟨ao (ao (aj ⟨D,d.out.v1 _⟩)),by decide⟩
     ·obtain⟨c0,c1,c2,c3,c4,c5,T,U,V,c9,t,y,B,E,F,q⟩:=j.all
      have M:=j.b.z;have tf:=j.b.f;have X:=hid j;clear j;go_wp2_with (go_at_call 120;refine(tb x.c m _ HF.out.c hmm).mono ?_;rintro e w5 ⟨rfl,I⟩;have d:=hid ((X.out.over _).kept I);obtain⟨c0,c1,c2,c3,c4,c5,T,U,V,c9,t,y,B,E,F,q⟩:=d.out.all;have M:=d.out.b.z;have tf:=d.out.b.f)
      exact⟨ao (ao (ao ⟨D,d.out.v2 _⟩)),by decide⟩
     ·have q:=j.w15
      have M:=j.b.z;have tf:=j.b.f;have X:=hid j;clear j;go_wp2
      go_roundw
      case rel =>
       obtain⟨e1,e2⟩:=ztM (mN:=m.toNat) HX.out HLL.out HF.out (by omega) hm1 hm2;refine⟨k+m.toNat,by omega,?_,?_⟩
       ·congr 1;omega
       ·rw[e1,e2];exact X.out.wait _
      case measure=>simp[intOf];omega
   ·
    have hz':(x.w == 0)=ξ:=by simpa using hz
    have H:wt x=x.w:=by unfold wt;rw[ae hz]
    have R:one x=[]:=by unfold one;rw[ae hz]
    have HO:=hid R;have HW0:=hid H;rw[H] at hm0;have HM0:=hid hm0;clear hz R H hm0;go_wp2;rw[<- HM0.out];go_loopw [39] (λi wr=>(i=J Q 0/\SmW w ⟨x.a,x.b,x.c,wt x⟩ (L++one x) u4 wr) \/ (i=J Q 1/\SmW w ⟨x.a.later m,x.b,x.c,wt x⟩ (L++one x) u4 wr) \/ (i=J Q 2/\SmW w ⟨x.a.later m,x.b.later m,x.c,wt x⟩ (L++one x) u4 wr) \/ (i=J Q 3/\SmW w ⟨x.a.later m,x.b.later m,x.c.later m,wt x⟩ (L++one x) u4 wr)) (λi _=>3-(intOf i).toNat)
    case atStart=>exact aj ⟨D,by rw[HO.out,HW0.out,cH];exact HA.out⟩
    case round =>
     clear HA l3 c0 c1 c2 c3 c4 c5 T U V c9 t y B E F q M tf;rcases hrel with⟨rfl,j⟩|⟨rfl,j⟩|⟨rfl,j⟩|⟨rfl,j⟩
     ·obtain⟨c0,c1,c2,c3,c4,c5,T,U,V,c9,t,y,B,E,F,q⟩:=j.all
      have M:=j.b.z;have tf:=j.b.f;have X:=hid j;clear j;go_wp2_with (go_at_call 120;refine(tb x.a m _ HF.out.a hmm).mono ?_;rintro e w5 ⟨rfl,I⟩;have d:=hid ((X.out.over _).kept I);obtain⟨c0,c1,c2,c3,c4,c5,T,U,V,c9,t,y,B,E,F,q⟩:=d.out.all;have M:=d.out.b.z;have tf:=d.out.b.f)
      exact⟨ao (aj ⟨D,d.out.v0 _⟩),by decide⟩
     ·obtain⟨c0,c1,c2,c3,c4,c5,T,U,V,c9,t,y,B,E,F,q⟩:=j.all
      have M:=j.b.z;have tf:=j.b.f;have X:=hid j;clear j;go_wp2_with (go_at_call 120;refine(tb x.b m _ HF.out.b hmm).mono ?_;rintro e w5 ⟨rfl,I⟩;have d:=hid ((X.out.over _).kept I);obtain⟨c0,c1,c2,c3,c4,c5,T,U,V,c9,t,y,B,E,F,q⟩:=d.out.all;have M:=d.out.b.z;have tf:=d.out.b.f)
      exact⟨ao (ao (aj ⟨D,d.out.v1 _⟩)),by decide⟩
     ·obtain⟨c0,c1,c2,c3,c4,c5,T,U,V,c9,t,y,B,E,F,q⟩:=j.all
      have M:=j.b.z;have tf:=j.b.f;have X:=hid j;clear j;go_wp2_with (go_at_call 120;refine(tb x.c m _ HF.out.c hmm).mono ?_;rintro e w5 ⟨rfl,I⟩;have d:=hid ((X.out.over _).kept I);obtain⟨c0,c1,c2,c3,c4,c5,T,U,V,c9,t,y,B,E,F,q⟩:=d.out.all;have M:=d.out.b.z;have tf:=d.out.b.f)
      exact⟨ao (ao (ao ⟨D,d.out.v2 _⟩)),by decide⟩
     ·have q:=j.w15
      have M:=j.b.z;have tf:=j.b.f;have X:=hid j;clear j;go_wp2
      go_roundw
      case rel =>
       obtain⟨e1,e2⟩:=ztM (mN:=m.toNat) HX.out HLL.out HF.out (by omega) hm1 hm2;refine⟨k+m.toNat,by omega,?_,?_⟩
       ·congr 1;omega
       ·rw[e1,e2];exact X.out.wait _
      case measure=>simp[intOf];omega
  ·
   obtain rfl:k=N:=by omega
   have HA:=hid P;have M:=P.r.z;have tf:=P.r.f;obtain⟨r0,r1,r2,r3,r4,r5,r6,r7,r8,r9,r10,r11,r12,r13,r14,r15⟩:=P.allr;obtain⟨c0,c1,c2,c3,c4,c5,T,U,V,c9,t,y,B,E,F,q⟩:=P.all;have HK0:=hid P.all;have HK1:=hid P.drew.all;have HK2:=hid (P.alls (s.ticks k));have HK3:=hid (P.alls' (s.ticks k));have HK4:=hid (P.drew.alls (s.ticks k));clear P;go_wp2;go_region_held3 (λw'=>AC (s.ticks k) w' w.heap.size)
    (first
      | with_reducible exact HK0.out
      | with_reducible exact HK1.out
      | (rw[qT];with_reducible exact HK2.out)
      | (rw[qT];with_reducible exact HK3.out)
      | (rw[qT];with_reducible exact HK4.out))
    (fail)
   go_wp2;rw[qT];refine Pl.cutB (λW=>Below w.heap.size w W/\Bx W (w.heap.size+1) (lz (s.ticks k))/\sliceAt W u4 (lB s k) /\ ∀ g,u4.ownBlock=some g->w.heap.size+2<=g) ⟨?_,?_,?_,λg hg=>(HA.out.o.lt g hg).1⟩ ?_
   ·exact(Bl.puts HA.out.low (by omega) _).drew
   ·exact(HA.out.r.puts 0 (lz (s.ticks k)) (by simp)).drew
   ·exact(zda (Ar (by omega) _ 0 HA.out.o)).drew
   rintro W ⟨hlow,hbox,hsl,hown⟩;have hl:=pR hbox;refine Ξ (v:=.tuple #[u4,(ac #[J Y (s.ticks k).a.p,J Y (s.ticks k).a.c,J au (s.ticks k).a.l,ν (s.ticks k).a.h,J Y (s.ticks k).a.n,J Y (s.ticks k).b.p,J Y (s.ticks k).b.c,J au (s.ticks k).b.l,ν (s.ticks k).b.h,J Y (s.ticks k).b.n,J Y (s.ticks k).c.p,J Y (s.ticks k).c.c,J au (s.ticks k).c.l,ν (s.ticks k).c.h,J Y (s.ticks k).c.n,J Q (s.ticks k).w]),J Q 0]) ?_ D ⟨_,D,hsl,hown,hlow⟩;simp only[results,results64];simp;show (Result.andThen (Sem.run ω (loadVar 36 ⟨w.heap.size+1,0,none⟩) W) _)=_;rw[hl];rfl
end Go.Proofs.YthghjlinhokimaaGreatDoor
