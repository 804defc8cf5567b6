/-
  Parts of a proof, joined.
-/
import Derived.Test.YthghjlinhokimaaGreatDoorZcA
import Derived.Test.YthghjlinhokimaaGreatDoorZc15
import Derived.Test.YthghjlinhokimaaGreatDoorZc14
set_option linter.all false
set_option maxRecDepth 100000
set_option maxHeartbeats 6400000
namespace Go.Proofs.YthghjlinhokimaaGreatDoor
open Go.ChangeShapes Go.WideShapes Go.ChangeAt Go.RowKit Go.Proofs.Tryz
section
variable {F : Fx} {W : World} {M M' : Mach} {tk tk' : Tk}
theorem rL(n:Nat)(a b:Array Value)(w:World):(binOp .eql 134 (.func (.func n) a b) .nilFunc).run prog w=.ok (.bool false) w:=by kernel_rfl
theorem wI(w:World):(binOp .eql 134 .nilFunc .nilFunc).run prog w=.ok (.bool true) w:=by kernel_rfl
theorem lf(vw:Value)(h:Bd F W M tk):Calls prog 213 #[.agg #[.nilFunc,vw]] W λe w'=>e=.returned (.int .u8 255)/\Bd F w' M tk/\Bt F W w':=by
 have a:=wI;have H:=hid h;clear h;go_enter func213,ntmps213;go_wp2;go_ret;exact⟨U,H.out.over _,Mv.of_below H.out.big (stA (J _) _)⟩
theorem zfb(g:Nat)(a:∀(x:Array Value) (w:World),(callFunc g x).run prog w=.ok (.enter g x) w)(vw:Value)(x:Int)(h:Bd F W M tk)(hc:∀ W,Bd F W M tk->Calls prog g #[pt F.g 0] W λe w'=>e=.returned (.int .u8 x)/\Bd F w' M' tk/\Bt F W w'):Calls prog 213 #[.agg #[dX g F.g 0,vw]] W λe w'=>e=.returned (.int .u8 x)/\Bd F w' M' tk/\Bt F W w':=by
 have d:∀ w:World,(binOp .eql 134 (dX g F.g 0) .nilFunc).run prog w=.ok (.bool false) w:=λw=>rL _ _ _ w
 have H:=hid h;have b:=hid hc;clear h hc;go_enter func213,ntmps213;go_wp2_with (refine(b.out _ (H.out.over _)).mono ?_;rintro e w1 ⟨rfl,hB,c⟩)
 go_ret;exact⟨U,hB,Mv.trans (Mv.of_below H.out.big (stA (J _) _)) c⟩
theorem zif(g:Nat)(a:∀(x:Array Value) (w:World),(callFunc g x).run prog w=.ok (.enter g x) w)(vw:Value)(x:Int)(h:Bd F W M tk)(hc:∀ W,Bd F W M tk->Calls prog g #[pt F.E.mb 0] W λe w'=>e=.returned (.int .u8 x)/\Bd F w' M' tk/\Bt F W w'):Calls prog 213 #[.agg #[cZ g #[pt F.E.mb 0],vw]] W λe w'=>e=.returned (.int .u8 x)/\Bd F w' M' tk/\Bt F W w':=by
 have d:∀ w:World,(binOp .eql 134 (cZ g #[pt F.E.mb 0]) .nilFunc).run prog w=.ok (.bool false) w:=λw=>rL _ _ _ w
 have H:=hid h;have b:=hid hc;clear h hc;go_enter func213,ntmps213;go_wp2_with (refine(b.out _ (H.out.over _)).mono ?_;rintro e w1 ⟨rfl,hB,c⟩)
 go_ret;exact⟨U,hB,Mv.trans (Mv.of_below H.out.big (stA (J _) _)) c⟩
theorem zjK(vw:Value)(x:Int)(q v:Nat)(h:Bd F W M tk)(hc:∀ W,Bd F W M tk->Calls prog 239 #[pt q 0,pt v 0] W λe w'=>e=.returned (.int .u8 x)/\Bd F w' M' tk/\Bt F W w'):Calls prog 213 #[.agg #[cZ 239 #[pt q 0,pt v 0],vw]] W λe w'=>e=.returned (.int .u8 x)/\Bd F w' M' tk/\Bt F W w':=by
 have c:∀ w:World,(binOp .eql 134 (cZ 239 #[pt q 0,pt v 0]) .nilFunc).run prog w=.ok (.bool false) w:=λw=>rL _ _ _ w
 have H:=hid h;have a:=hid hc;clear h hc;go_enter func213,ntmps213;go_wp2_with (go_at_call 239;refine(a.out _ (H.out.over _)).mono ?_;rintro e w1 ⟨rfl,hB,b⟩)
 go_ret;exact⟨U,hB,Mv.trans (Mv.of_below H.out.big (stA (J _) _)) b⟩
theorem zts(i:Nat)(hi:i<32):vE F M tk i:=by
 intro W h;have hc:i=0 \/ i=1 \/ i=2 \/ i=3 \/ i=4 \/ i=5 \/ i=6 \/ i=7 \/ i=8 \/ i=9 \/ i=10 \/ i=11 \/ i=12 \/ i=13 \/ i=14 \/ i=15 \/ i=16 \/ i=17 \/ i=18 \/ i=19 \/ i=20 \/ i=21 \/ i=22 \/ i=23 \/ i=24 \/ i=25 \/ i=26 \/ i=27 \/ i=28 \/ i=29 \/ i=30 \/ i=31:=by omega
 rcases hc with rfl|rfl|rfl|rfl|rfl|rfl|rfl|rfl|rfl|rfl|rfl|rfl|rfl|rfl|rfl|rfl|rfl|rfl|rfl|rfl|rfl|rfl|rfl|rfl|rfl|rfl|rfl|rfl|rfl|rfl|rfl|rfl
 ·exact zjK _ _ _ _ h (λW h=>zq0 h)
 ·exact zjK _ _ _ _ h (λW h=>zq1 h)
 ·exact lf _ h
 ·exact lf _ h
 ·exact zfb _ (λ_ _=>U) _ _ h (λW h=>zoF h)
 ·exact lf _ h
 ·exact zif _ (λ_ _=>U) _ _ h (λW h=>zqU h)
 ·exact zif _ (λ_ _=>U) _ _ h (λW h=>zv6 h)
 ·exact zfb _ (λ_ _=>U) _ _ h (λW h=>zqT h)
 ·exact lf _ h
 ·exact lf _ h
 ·exact lf _ h
 ·exact lf _ h
 ·exact lf _ h
 ·exact lf _ h
 ·exact lf _ h
 ·exact zfb _ (λ_ _=>U) _ _ h (λW h=>ztr h)
 ·exact zif _ (λ_ _=>U) _ _ h (λW h=>zqV h)
 ·exact lf _ h
 ·exact lf _ h
 ·exact lf _ h
 ·exact lf _ h
 ·exact lf _ h
 ·exact lf _ h
 ·exact lf _ h
 ·exact lf _ h
 ·exact lf _ h
 ·exact lf _ h
 ·exact lf _ h
 ·exact lf _ h
 ·exact lf _ h
 ·exact lf _ h
theorem ztt(i:Nat)(hi:i<32):vF F M tk i:=by
 intro W h;unfold Fx.rdA Mach.portA;by_cases e:i=24
 ·rw[Q e,Q e]
  exact zfb _ (λ_ _=>U) _ _ h (λW h=>zqW h)
 ·rw[G e,G e]
  exact lf _ h
end
theorem zfL(s:Sd)(N:Nat)(w:World)(h:s.fit)(hn:N<=20000):Calls prog 64 #[(.agg #[.int .u16 s.a.p,.int .u16 s.a.c,.int .u8 s.a.l,.bool s.a.h,.int .u16 s.a.n,.int .u16 s.b.p,.int .u16 s.b.c,.int .u8 s.b.l,.bool s.b.h,.int .u16 s.b.n,.int .u16 s.c.p,.int .u16 s.c.c,.int .u8 s.c.l,.bool s.c.h,.int .u16 s.c.n,.int .i64 s.w]),.int .i64 N] w λe w'=>∃ v,e=.returned (.tuple #[v,(.agg #[.int .u16 (s.ticks N).a.p,.int .u16 (s.ticks N).a.c,.int .u8 (s.ticks N).a.l,.bool (s.ticks N).a.h,.int .u16 (s.ticks N).a.n,.int .u16 (s.ticks N).b.p,.int .u16 (s.ticks N).b.c,.int .u8 (s.ticks N).b.l,.bool (s.ticks N).b.h,.int .u16 (s.ticks N).b.n,.int .u16 (s.ticks N).c.p,.int .u16 (s.ticks N).c.c,.int .u8 (s.ticks N).c.l,.bool (s.ticks N).c.h,.int .u16 (s.ticks N).c.n,.int .i64 (s.ticks N).w]),.int .i64 0])/\sliceAt w' v (ku s N)/\(∀ k,v.ownBlock=some k->w.heap.size+2<=k)/\Below w.heap.size w w':=by
 have hm:=zvG N;rw[aL (show 0<=(N:Int)/\(N:Int)<=20000 by omega)] at hm;have i0:=rI;have i1:=rJ;have i2:=rK;go_enter func64,ntmps64;go_wp2_with (first
  | (go_at_call 117;refine(zg4 s _ h.w).mono ?_;rintro e w0 ⟨rfl,hb0⟩)
  | (go_at_call 118;refine(hm _).mono ?_;rintro e w9 ⟨rfl,rfl⟩))
 have HS0:Hid (SmW w s [] (.slice none 0 0) w0):=(⟨stA (stA (J w) _) _,(Bx.new w (iE s) _ U).over _,Bx.new _ zs _ (by simp),⟨U,Or.inl ⟨U,U⟩⟩⟩:SmW w s [] (.slice none 0 0) _).kept hb0;clear hb0 hm;go_loopw [1,4] (λn v wr=>∃ k:Nat,k<=N/\n=.int .i64 (N-k:Int)/\SmW w (s.ticks k) (ku s k) v wr) (λn _ _=>(intOf n).toNat)
 case atStart=>exact⟨0,aU _,by simp,HS0.out⟩
 case round =>
  clear HS0;obtain⟨k,hk,rfl,M⟩:=hrel;have HF:=hid (Sd.ticks_fit h k);have HL:=hid (zqc s k);by_cases h8:k<N
  ·have h8':(0:Int)<(N:Int)-k:=by omega
   have hwt:=wg HF.out;obtain⟨m,Z⟩:∃ m:Int,m=min ((N:Int)-k) (wt (s.ticks k)):=⟨_,U⟩
   have hmm:0<=m/\m<=20000:=by omega
   have hm1:1<=m:=by omega
   have hm2:m<=wt (s.ticks k):=by omega
   have hm3:m<=(N:Int)-k:=by omega
   generalize hx:s.ticks k=x at *;generalize hL:ku s k=L at *;have HX:=hid hx;have HLL:=hid hL;clear hx hL;have HA:=hid M;obtain⟨c0,c1,c2,c3,c4,c5,R,T,V,c9,t,u,y,B,E,q⟩:=M.all;have I:=M.b.z;have tf:=M.b.f;have l3:=qG M.b;clear M;by_cases hz:x.w=0
   ·
    have F:wt x=16:=by unfold wt;rw[Q hz]
    have P:one x=[sm x]:=by unfold one;rw[Q hz]
    have HO:=hid P;have HW0:=hid F;rw[F] at Z;have HM0:=hid Z;have hsm:=(zu1 x).symm;have HLB:Hid (L.length<=50000):=by have:=HL.out;exact ax this (by omega)
    have HSM:=hid hsm;have HZ:=hid hz;clear P F hsm Z;rw[hz] at q;clear hz;go_wp2_with (first
     | (go_at_call 119;refine(zot x _ HF.out.k).mono ?_;rintro e w3 ⟨rfl,hb3⟩;have HA3:=hid (HA.out.kept hb3);have Y:=hid (HA3.out.over (.cells #[.int .u8 (lu x)] 5)))
     | (at_builtin;refine app1 (by rfl) _ _ (by rfl) (w.heap.size+2) _ L (by rfl) Y.out.o w3.heap.size 1 (sm x) (lu x) (by rfl) (Pl.new _ _ _ _ U) HSM.out HLB.out Y.out.r.z ?_;intro v' w' hown' hb';have HA4:=hid (Y.out.app hb' hown');obtain⟨c0,c1,c2,c3,c4,c5,R,T,V,c9,t,u,y,B,E,q⟩:=HA4.out.all;have I:=HA4.out.b.z;have tf:=HA4.out.b.f;have l3':=qG (HA4.out.wait 16).b))
    rw[<- HM0.out];go_loopw [39] (λi wr=>(i=.int .i64 0/\SmW w ⟨x.a,x.b,x.c,wt x⟩ (L++one x) v' wr) \/ (i=.int .i64 1/\SmW w ⟨x.a.later m,x.b,x.c,wt x⟩ (L++one x) v' wr) \/ (i=.int .i64 2/\SmW w ⟨x.a.later m,x.b.later m,x.c,wt x⟩ (L++one x) v' wr) \/ (i=.int .i64 3/\SmW w ⟨x.a.later m,x.b.later m,x.c.later m,wt x⟩ (L++one x) v' wr)) (λi _=>3-(intOf i).toNat)
    case atStart=>exact Or.inl ⟨U,by rw[HO.out,HW0.out];exact HA4.out.wait 16⟩
    case round =>
     clear HA HA3 HA4 Y l3 l3' c0 c1 c2 c3 c4 c5 R T V c9 t u y B E q I tf hown' hb' hb3;rcases hrel with⟨rfl,j⟩|⟨rfl,j⟩|⟨rfl,j⟩|⟨rfl,j⟩
     ·obtain⟨c0,c1,c2,c3,c4,c5,R,T,V,c9,t,u,y,B,E,q⟩:=j.all
      have I:=j.b.z;have tf:=j.b.f;have X:=hid j;clear j;go_wp2_with (go_at_call 120;refine(n5 x.a m _ HF.out.a hmm).mono ?_;rintro e w5 ⟨rfl,H⟩;have d:=hid ((X.out.over _).kept H);obtain⟨c0,c1,c2,c3,c4,c5,R,T,V,c9,t,u,y,B,E,q⟩:=d.out.all;have I:=d.out.b.z;have tf:=d.out.b.f)
      exact⟨Or.inr (Or.inl ⟨U,d.out.v0 _⟩),by decide⟩
     ·obtain⟨c0,c1,c2,c3,c4,c5,R,T,V,c9,t,u,y,B,E,q⟩:=j.all
      have I:=j.b.z;have tf:=j.b.f;have X:=hid j;clear j;go_wp2_with (go_at_call 120;refine(n5 x.b m _ HF.out.b hmm).mono ?_;rintro e w5 ⟨rfl,H⟩;have d:=hid ((X.out.over _).kept H);obtain⟨c0,c1,c2,c3,c4,c5,R,T,V,c9,t,u,y,B,E,q⟩:=d.out.all;have I:=d.out.b.z;have tf:=d.out.b.f)
      exact⟨Or.inr (Or.inr (Or.inl ⟨U,d.out.v1 _⟩)),by decide⟩
     ·obtain⟨c0,c1,c2,c3,c4,c5,R,T,V,c9,t,u,y,B,E,q⟩:=j.all
      have I:=j.b.z;have tf:=j.b.f;have X:=hid j;clear j;go_wp2_with (go_at_call 120;refine(n5 x.c m _ HF.out.c hmm).mono ?_;rintro e w5 ⟨rfl,H⟩;have d:=hid ((X.out.over _).kept H);obtain⟨c0,c1,c2,c3,c4,c5,R,T,V,c9,t,u,y,B,E,q⟩:=d.out.all;have I:=d.out.b.z;have tf:=d.out.b.f)
      exact⟨Or.inr (Or.inr (Or.inr ⟨U,d.out.v2 _⟩)),by decide⟩
     ·have q:=j.w15
      have I:=j.b.z;have tf:=j.b.f;have X:=hid j;clear j;go_wp2
      go_roundw
      case rel =>
       obtain⟨e1,e2⟩:=zra (mN:=m.toNat) HX.out HLL.out HF.out (by omega) hm1 hm2;refine⟨k+m.toNat,by omega,?_,?_⟩
       ·congr 1;omega
       ·rw[e1,e2];exact X.out.wait _
      case measure=>simp[intOf];omega
   ·
    have hz':(x.w == 0)=false:=by simpa using hz
    have F:wt x=x.w:=by unfold wt;rw[G hz]
    have P:one x=[]:=by unfold one;rw[G hz]
    have HO:=hid P;have HW0:=hid F;rw[F] at Z;have HM0:=hid Z;clear hz P F Z;go_wp2;rw[<- HM0.out];go_loopw [39] (λi wr=>(i=.int .i64 0/\SmW w ⟨x.a,x.b,x.c,wt x⟩ (L++one x) u4 wr) \/ (i=.int .i64 1/\SmW w ⟨x.a.later m,x.b,x.c,wt x⟩ (L++one x) u4 wr) \/ (i=.int .i64 2/\SmW w ⟨x.a.later m,x.b.later m,x.c,wt x⟩ (L++one x) u4 wr) \/ (i=.int .i64 3/\SmW w ⟨x.a.later m,x.b.later m,x.c.later m,wt x⟩ (L++one x) u4 wr)) (λi _=>3-(intOf i).toNat)
    case atStart=>exact Or.inl ⟨U,by rw[HO.out,HW0.out,bZ];exact HA.out⟩
    case round =>
     clear HA l3 c0 c1 c2 c3 c4 c5 R T V c9 t u y B E q I tf;rcases hrel with⟨rfl,j⟩|⟨rfl,j⟩|⟨rfl,j⟩|⟨rfl,j⟩
     ·obtain⟨c0,c1,c2,c3,c4,c5,R,T,V,c9,t,u,y,B,E,q⟩:=j.all
      have I:=j.b.z;have tf:=j.b.f;have X:=hid j;clear j;go_wp2_with (go_at_call 120;refine(n5 x.a m _ HF.out.a hmm).mono ?_;rintro e w5 ⟨rfl,H⟩;have d:=hid ((X.out.over _).kept H);obtain⟨c0,c1,c2,c3,c4,c5,R,T,V,c9,t,u,y,B,E,q⟩:=d.out.all;have I:=d.out.b.z;have tf:=d.out.b.f)
      exact⟨Or.inr (Or.inl ⟨U,d.out.v0 _⟩),by decide⟩
     ·obtain⟨c0,c1,c2,c3,c4,c5,R,T,V,c9,t,u,y,B,E,q⟩:=j.all
      have I:=j.b.z;have tf:=j.b.f;have X:=hid j;clear j;go_wp2_with (go_at_call 120;refine(n5 x.b m _ HF.out.b hmm).mono ?_;rintro e w5 ⟨rfl,H⟩;have d:=hid ((X.out.over _).kept H);obtain⟨c0,c1,c2,c3,c4,c5,R,T,V,c9,t,u,y,B,E,q⟩:=d.out.all;have I:=d.out.b.z;have tf:=d.out.b.f)
      exact⟨Or.inr (Or.inr (Or.inl ⟨U,d.out.v1 _⟩)),by decide⟩
     ·obtain⟨c0,c1,c2,c3,c4,c5,R,T,V,c9,t,u,y,B,E,q⟩:=j.all
      have I:=j.b.z;have tf:=j.b.f;have X:=hid j;clear j;go_wp2_with (go_at_call 120;refine(n5 x.c m _ HF.out.c hmm).mono ?_;rintro e w5 ⟨rfl,H⟩;have d:=hid ((X.out.over _).kept H);obtain⟨c0,c1,c2,c3,c4,c5,R,T,V,c9,t,u,y,B,E,q⟩:=d.out.all;have I:=d.out.b.z;have tf:=d.out.b.f)
      exact⟨Or.inr (Or.inr (Or.inr ⟨U,d.out.v2 _⟩)),by decide⟩
     ·have q:=j.w15
      have I:=j.b.z;have tf:=j.b.f;have X:=hid j;clear j;go_wp2
      go_roundw
      case rel =>
       obtain⟨e1,e2⟩:=zra (mN:=m.toNat) HX.out HLL.out HF.out (by omega) hm1 hm2;refine⟨k+m.toNat,by omega,?_,?_⟩
       ·congr 1;omega
       ·rw[e1,e2];exact X.out.wait _
      case measure=>simp[intOf];omega
  ·
   obtain rfl:k=N:=by omega
   have HA:=hid M;have I:=M.r.z;have tf:=M.r.f;obtain⟨r0,r1,r2,r3,r4,r5,r6,r7,r8,r9,r10,r11,r12,r13,r14,r15⟩:=M.allr;obtain⟨c0,c1,c2,c3,c4,c5,R,T,V,c9,t,u,y,B,E,q⟩:=M.all;have HK0:=hid M.all;have HK1:=hid M.drew.all;have HK2:=hid (M.alls (s.ticks k));have HK3:=hid (M.alls' (s.ticks k));have HK4:=hid (M.drew.alls (s.ticks k));clear M;go_wp2;go_region_held3 (λw'=>tM (s.ticks k) w' w.heap.size)
    (first
      | with_reducible exact HK0.out
      | with_reducible exact HK1.out
      | (rw[mn];with_reducible exact HK2.out)
      | (rw[mn];with_reducible exact HK3.out)
      | (rw[mn];with_reducible exact HK4.out))
    (fail)
   go_wp2;rw[mn];refine Pl.cutB (λW=>Below w.heap.size w W/\Bx W (w.heap.size+1) (iE (s.ticks k))/\sliceAt W u4 (ku s k) /\ ∀ g,u4.ownBlock=some g->w.heap.size+2<=g) ⟨?_,?_,?_,λg hg=>(HA.out.o.lt g hg).1⟩ ?_
   ·exact(Bl.puts HA.out.low (by omega) _).drew
   ·exact(HA.out.r.puts 0 (iE (s.ticks k)) (by simp)).drew
   ·exact(zcK (tw (by omega) _ 0 HA.out.o)).drew
   rintro W ⟨hlow,hbox,hsl,hown⟩;have hl:=lx hbox;refine ao (v:=.tuple #[u4,(.agg #[.int .u16 (s.ticks k).a.p,.int .u16 (s.ticks k).a.c,.int .u8 (s.ticks k).a.l,.bool (s.ticks k).a.h,.int .u16 (s.ticks k).a.n,.int .u16 (s.ticks k).b.p,.int .u16 (s.ticks k).b.c,.int .u8 (s.ticks k).b.l,.bool (s.ticks k).b.h,.int .u16 (s.ticks k).b.n,.int .u16 (s.ticks k).c.p,.int .u16 (s.ticks k).c.c,.int .u8 (s.ticks k).c.l,.bool (s.ticks k).c.h,.int .u16 (s.ticks k).c.n,.int .i64 (s.ticks k).w]),.int .i64 0]) ?_ U ⟨_,U,hsl,hown,hlow⟩;simp only[results,results64];simp;show (Result.andThen (Sem.run prog (loadVar 36 ⟨w.heap.size+1,0,none⟩) W) _)=_;rw[hl];rfl
end Go.Proofs.YthghjlinhokimaaGreatDoor
