/-
  Parts of a proof, joined.
-/
import Derived.Test.YthghjlinhokimaaGreatDoorZbA
import Derived.Test.YthghjlinhokimaaGreatDoorZb17
set_option linter.all false
set_option maxRecDepth 100000
set_option maxHeartbeats 6400000
open Option renaming none->G,some->A
open Go renaming World->u,Value->π,Calls->Δ,TypeId->aJ,Program->bX,Oper->cG,wpList->dg,Operand->dk
open Bool renaming false->ξ,true->Γ
open Go.Proofs.Tryz renaming prog->ω
open Go.Act renaming put->ag
open Go.Instr renaming build->dw
open Go.Value renaming int->J,slice->κ,agg->ac
open Go.IntKind renaming i64->Q
open Go.Ending renaming returned->μ
namespace Go.Proofs.YthghjlinhokimaaGreatDoor
open Go.ChangeShapes Go.WideShapes Go.ChangeAt Go.RowKit Go.Proofs.Tryz
theorem zlG(a1 a2:Option Addr)(a c1 b c2:Nat)(w:u)(h1:a<=9223372036854775807)(h2:b<=9223372036854775807):Δ ω 178 #[κ a1 a c1,κ a2 b c2] w λe w'=>e=μ (J Q (if a<=1024/\b<=1024 then 0 else 2))/\w=w':=by
 by_cases h:a<=1024
 ·have c:¬ (1024:Int)<a:=by omega
  by_cases k:b<=1024
  ·have k':¬ (1024:Int)<b:=by omega
   rw[am ⟨h,k⟩];clear h k;go_enter func178,ntmps178;go_wp2;go_ret;exact⟨D,D⟩
  ·have k':(1024:Int)<b:=by omega
   rw[ae (λx=>k x.2)];clear h k;go_enter func178,ntmps178;go_wp2;go_ret;exact⟨D,D⟩
 ·have c:(1024:Int)<a:=by omega
  rw[ae (λx=>h x.1)];clear h;go_enter func178,ntmps178;go_wp2;go_ret;exact⟨D,D⟩
theorem su{ι:u}{b:Nat}{M:Mach}{S:Sl}(h:Bx ι b (υ M S)):(∀ j,j<5->ι.cell? ⟨b,30+j,G⟩=A (S.get j))/\ι.cell? ⟨b,61,G⟩=A (J Q M.b.l)/\ι.cell? ⟨b,62,G⟩=A (J Q M.b.a)/\ι.cell? ⟨b,63,G⟩=A (.bool M.b.g)/\ι.cell? ⟨b,64,G⟩=A (J Q M.b.f) /\
 ι.cell? ⟨b,72,G⟩=A (J Q M.clock)/\ι.cell? ⟨b,73,G⟩=A (J Q M.mready)/\ι.cell? ⟨b,74,G⟩=A (J Q M.aready)/\b<ι.heap.size :=
 ⟨λj c=>h.at _ _ (zjO M S j c),h.at 61 _ rfl,h.at 62 _ rfl,h.at 63 _ rfl,h.at 64 _ rfl,h.at 72 _ rfl,h.at 73 _ rfl,h.at 74 _ rfl,h.z⟩
theorem ri{ι:u}{b:Nat}{M:Mach}{S:Sl}{a0 a1 a2 a3 a4:Option Addr}{c0 c1 c2 c3 c4:Nat}(h:Bx ι b (υ M S))(a:S.get 0=κ a0 M.mrom.length c0)(e1:S.get 1=κ a1 M.arom.length c1)(e2:S.get 2=κ a2 M.ram.length c2)(e3:S.get 3=κ a3 M.own.length c3)(e4:S.get 4=κ a4 M.video.length c4):ι.cell? ⟨b,30,G⟩=A (κ a0 M.mrom.length c0)/\ι.cell? ⟨b,31,G⟩=A (κ a1 M.arom.length c1)/\ι.cell? ⟨b,32,G⟩=A (κ a2 M.ram.length c2)/\ι.cell? ⟨b,33,G⟩=A (κ a3 M.own.length c3)/\ι.cell? ⟨b,34,G⟩=A (κ a4 M.video.length c4):=by
 rw[<- a,<- e1,<- e2,<- e3,<- e4];exact⟨h.at 30 _ D,h.at 31 _ D,h.at 32 _ D,h.at 33 _ D,h.at 34 _ D⟩
theorem Cd{ι:u}{b:Nat}{M:Mach}{S:Sl}(a:S.lens M)(h:Bx ι b (υ M S)):∃ a0 c0 a1 c1 a2 c2 a3 c3 a4 c4,ι.cell? ⟨b,30,G⟩=A (κ a0 M.mrom.length c0)/\ι.cell? ⟨b,31,G⟩=A (κ a1 M.arom.length c1)/\ι.cell? ⟨b,32,G⟩=A (κ a2 M.ram.length c2)/\ι.cell? ⟨b,33,G⟩=A (κ a3 M.own.length c3)/\ι.cell? ⟨b,34,G⟩=A (κ a4 M.video.length c4):=by
 obtain⟨a0,c0,c⟩:=a 0 (by omega);obtain⟨a1,c1,e1⟩:=a 1 (by omega);obtain⟨a2,c2,e2⟩:=a 2 (by omega);obtain⟨a3,c3,e3⟩:=a 3 (by omega);obtain⟨a4,c4,e4⟩:=a 4 (by omega);exact⟨a0,c0,a1,c1,a2,c2,a3,c3,a4,c4,ri h c e1 e2 e3 e4⟩
theorem Sd.check(s:Sd)(w:u):Δ ω 117 #[ac (dq s).toArray] w λe w'=>e=μ (J Q (if 0<=s.w/\s.w<=15 then 0 else 3))/\Below w.heap.size w w':=by
 by_cases h:0<=s.w/\s.w<=15
 ·rw[am h];exact zik s w h
 ·rw[ae h];exact zsQ s w (by omega)
theorem Bem.check(b:Bem)(w:u):Δ ω 121 #[ac #[J Q b.l,J Q b.a,.bool b.g,J Q b.f]] w λe w'=>e=μ (J Q (if pL b.l b.a b.f then 0 else 3))/\Below w.heap.size w w':=by
 cases h:pL b.l b.a b.f
 ·exact zd1 b.l b.a b.f b.g w (λx=>by rw[(qo _ _ _).2 x] at h;cases h)
 ·exact At b.l b.a b.f b.g w ((qo _ _ _).1 h)
theorem zfy(M:Mach)(S:Sl)(w:u)(E:S.lens M)(o:∀ j,j<5->(M.byt j).length<=9223372036854775807):Δ ω 105 #[ac (υ M S).toArray] w λe w'=>e=μ (J Q M.chk)/\Below w.heap.size w w':=by
 have p:M.mrom.length<=9223372036854775807:=o 0 (by omega);have q:M.arom.length<=9223372036854775807:=o 1 (by omega);have hB:=Bx.new w (υ M S) 41 (b:=w.heap.size) D;obtain⟨a0,c0,a1,c1,a2,c2,a3,c3,a4,c4,d0,d1,d2,d3,d4⟩:=Cd E hB;obtain⟨_,f0,f1,f2,f3,f4,f5,f6,f7⟩:=su hB;have F:=hid hB;have H:=hid (stA (aR w) (.cells (υ M S).toArray 41));obtain⟨ck,d⟩:∃ c,c=M.chk:=⟨_,D⟩
 rw[<- d];unfold Mach.chk at d;obtain⟨r,t⟩:∃ r,(if M.mrom.length<=1024/\M.arom.length<=1024 then (0:Int) else 2)=r:=⟨_,D⟩
 obtain⟨s,v⟩:∃ s,(if 0<=M.s.w/\M.s.w<=15 then (0:Int) else 3)=s:=⟨_,D⟩
 obtain⟨m,x⟩:∃ m,(if pL M.b.l M.b.a M.b.f then (0:Int) else 3)=m:=⟨_,D⟩
 obtain⟨k1,h1⟩:∃ k,decide (0<=M.clock/\M.clock<=200000)=k:=⟨_,D⟩
 obtain⟨k2,h2⟩:∃ k,decide (0<=M.mready/\M.mready<=M.clock+20000)=k:=⟨_,D⟩
 obtain⟨I,h3⟩:∃ k,decide (0<=M.aready/\M.aready<=M.clock+20000)=k:=⟨_,D⟩
 have y:(r=2/\ck=2) \/ (r=0 /\ ¬ (M.ram.length:Int)=128/\ck=4) \/ (r=0/\M.ram.length=128 /\ ¬ (M.own.length:Int)=64/\ck=4) \/ (r=0/\M.ram.length=128/\M.own.length=64 /\ ¬ (M.video.length:Int)=256/\ck=4) \/
  (r=0/\M.ram.length=128/\M.own.length=64/\M.video.length=256/\((s=3/\ck=3) \/ (s=0/\m=3/\ck=3) \/ (s=0/\m=0/\k1=ξ/\ck=3) \/ (s=0/\m=0/\k1=Γ/\k2=ξ/\ck=3/\0<=M.clock/\M.clock<=200000) \/ (s=0/\m=0/\k1=Γ/\k2=Γ/\I=ξ/\ck=3/\0<=M.clock/\M.clock<=200000) \/ (s=0/\m=0/\k1=Γ/\k2=Γ/\I=Γ/\ck=0/\0<=M.clock/\M.clock<=200000))):=by
  subst t v x h1 h2 h3 d;by_cases q1:M.mrom.length<=1024/\M.arom.length<=1024
  ·by_cases L:M.ram.length=128/\M.own.length=64/\M.video.length=256
   ·by_cases P:0<=M.s.w/\M.s.w<=15 <;> by_cases R:pL M.b.l M.b.a M.b.f=Γ <;> by_cases T:0<=M.clock/\M.clock<=200000 <;> by_cases U:0<=M.mready/\M.mready<=M.clock+20000 <;> by_cases V:0<=M.aready/\M.aready<=M.clock+20000 <;> simp[q1,L,P,R,T,U,V]
   ·simp[q1,L]
    omega
  ·simp[q1]
 have W:=hid t;have X:=hid v;have Z:=hid x;have K1:=hid h1;have K2:=hid h2;have K3:=hid h3;clear t v x h1 h2 h3 d hB E o;rcases y with⟨rfl,rfl⟩|⟨rfl,l0,rfl⟩|⟨rfl,l0,l1,rfl⟩|⟨rfl,l0,l1,l2,rfl⟩|⟨rfl,l0,l1,l2,⟨rfl,rfl⟩|⟨rfl,rfl,rfl⟩|⟨rfl,rfl,rfl,rfl⟩|⟨rfl,rfl,rfl,rfl,rfl,l3,N⟩|⟨rfl,rfl,rfl,rfl,rfl,rfl,l3,N⟩|⟨rfl,rfl,rfl,rfl,rfl,rfl,l3,N⟩⟩
 all_goals
  go_enter func105,ntmps105;go_wp2_with (first
   | (go_at_call 178;refine(zlG _ _ _ _ _ _ _ p q).mono ?_;rw[W.out];rintro e w0 ⟨rfl,rfl⟩)
   | (refine wpList_load_mid D 36 _ D w.heap.size 45 D (dq M.s) _ F.out.sndR underlying36 D nh ?_)
   | (go_at_call 117;refine(Sd.check M.s _).mono ?_;rw[X.out];rintro e w1 ⟨rfl,g⟩;have h:=hid (F.out.kept g);have i:=hid (bw H.out g);obtain⟨_,x0,x1,x2,x3,x4,x5,x6,x7⟩:=su h.out)
   | (go_at_call 121;refine(Bem.check M.b _).mono ?_;rw[Z.out];rintro e w2 ⟨rfl,n⟩;have z:=hid (h.out.kept n);have B:=hid (bw i.out n);obtain⟨_,y0,y1,y2,y3,y4,y5,y6,y7⟩:=su z.out)
   | (go_at_call 179;refine(zjC _ _ _).mono ?_;(first|rw[K1.out]|rw[K2.out]|rw[K3.out]);rintro e w0 ⟨rfl,rfl⟩))
  go_ret;first|exact⟨D,B.out⟩|exact⟨D,i.out⟩|exact⟨D,H.out⟩
theorem zcX{P:bX}{ops:Array cG}{rest:List cG}{op:cG}{a:Act}{w:u}{η:Exit->Act->u->Prop}(c:op.guard=G)(t:aJ)(i:Nat)(x:dk)(e:op.op=.build t #[(i,x)])(d v:π)(f:a.eval x=d)
 (b:(dw t #[(i,d)]).run P w=.ok v w) (h:dg P ops η rest (a.put op.dst v) w):dg P ops η (op::rest) a w :=
 wpList_build c t _ e v (by simp only[fy,cI,dQ,f];exact b) h
theorem zE{P:bX}{a:Act}{o:cG}{w:u}(t:aJ)(i j k:Nat)(x y z:dk)(f:o.op=.build t #[(i,x),(j,y),(k,z)])(c d e v:π)(g:a.eval x=c)(h:a.eval y=d)(l:a.eval z=e)
 (b:(dw t #[(i,c),(j,d),(k,e)]).run P w=.ok v w):(execOp a.eval o).run P w=.ok (.value v) w :=
 zdF t _ f v (by simp only[fy,cI,dQ,g,h,l];exact b)
theorem zA1(g n:Nat)(w:u):(dw 140 #[(0,pt g 30),(1,ik 107 g 0),(2,ac (eP (vP g (mE n)).rdM (vP g (mE n)).wrM 32).toArray)]).run ω w=.ok (ac (sM g n).toArray) w:=by kernel_rfl
theorem zA2(g a:Nat)(w:u):(dw 140 #[(0,pt g 31),(1,ik 109 g 0),(2,ac (tW a g 24).toArray)]).run ω w=.ok (ac (sA g a).toArray) w:=by kernel_rfl
theorem tK{P:bX}{md:Region.Mode}{ops:Array cG}{η:Exit->Act->u->Prop}{S:u->Prop}{fuel:Nat}{c:Array Bool}{a:Act}{w:u}{i:Nat}{op:cG}(e:Region.ready md ops c=[i])(hi:ops[i]?=A op)(d:op.guard=G)(ty:aJ)(x y:dk)(f:op.op=.store ty x y)
 (b o:Nat) (cells:Array π) (g:a.eval x=.pointer (A ⟨b,o,G⟩)) (j:a.eval y=ac cells) (k:w.there b o cells.size) (l:(P.info? ty).map (·.size)=A cells.size) (h1:cells.all (·.oneCell')=Γ) (m:S (w.setCells b o cells.toList))
 (h:wpAnyH P md ops η S fuel (c.setIfInBounds i Γ) (a.put op.dst undef) (w.setCells b o cells.toList)):wpAnyH P md ops η S (fuel+1) c a w :=
 wpAnyH_ready e (by simp) (AllReadyH.cons hi (λK n=>pH d ty x y f b o cells g j k l h1 (n.out _ _ m (λ_=>h))) AllReadyH.nil)
theorem xK(g n:Nat):(sM g n).toArray.size=66:=by rw[jQ,zC]
theorem xL(g n:Nat):(sA g n).toArray.size=66:=by rw[jQ,zp5]
theorem zF{M:Mach}(a:M.fit):∀ j,j<5->(M.byt j).length<=1024:=λj b=>by
 rcases five b with rfl|rfl|rfl|rfl|rfl
 ·exact a.mrom
 ·exact a.arom
 ·show M.ram.length<=1024;rw[a.ram];omega
 ·show M.own.length<=1024;rw[a.own];omega
 ·show M.video.length<=1024;rw[a.video];omega
theorem yl(M:Mach)(S:Sl)(w:u)(i:S.lens M)(k:∀ j,j<5->(M.byt j).length<=9223372036854775807)(hc:M.chk≠0):Δ ω 56 #[ac (υ M S).toArray] w λe w'=>e=μ (.tuple #[.pointer G,J Q M.chk])/\Below w.heap.size w w':=by
 have hB:=Bx.new w (υ M S) 41 (b:=w.heap.size) D;have l:=hid hB;have d:=hid i;have m:=hid k;have n:(M.chk == 0)=ξ:=by simpa using hc
 clear hB i k hc;generalize a:M.chk=c at *;have f:=hid a;clear a;go_enter func56,ntmps56;go_wp2_with (first
  | (refine wpList_load_mid D 41 _ D w.heap.size 0 D (υ M S) _ l.out.c underlying41 D cn ?_)
  | (go_at_call 105;refine(zfy M S _ d.out m.out).mono ?_;rw[f.out];rintro e w1 ⟨rfl,g⟩;have h:=hid (bw (stA (aR w) (.cells (υ M S).toArray 41)) g)))
 go_ret2
 exact⟨D,h.out⟩
theorem xM{v0 b:π}{L:List π}(c:v0.oneCell'=Γ)(h1:b.oneCell'=Γ)(h:∀ v∈L,v.oneCell'=Γ):(v0::b::L).toArray.all (·.oneCell')=Γ :=
 all_oneCell_toArray (λv a=>by
  simp only[bp] at a;rcases a with rfl|rfl|a
  ·exact c
  ·exact h1
  ·exact h v a)
theorem Ce(g n:Nat):(sM g n).toArray.all (·.oneCell')=Γ:=xM rfl rfl (λv a=>by
 obtain⟨i,rfl|rfl⟩:=zez _ _ v 32 a
 ·exact Bk _ _
 ·exact Bn _ _)
theorem Cf(g a:Nat):(sA g a).toArray.all (·.oneCell')=Γ:=xM rfl rfl (λv b=>by
 obtain⟨i,rfl|rfl⟩:=zez _ _ v 32 b
 ·unfold apR;split <;> rfl
 ·unfold yj;split
  ·rfl
  ·split <;> rfl)
theorem OwnK.room{B:Nat}{M:Mach}{S:Sl}{ι:u}(h:OwnK B M S 5 ι)(a:M.fit):B<=ι.heap.size:=by
 rcases h.own 2 (by omega) with⟨_,e⟩|⟨b,c,_,_,h3,h4⟩
 ·have d:M.ram=[]:=e
  have:=a.ram;rw[d] at this;simp at this
 ·have:=h4.z;omega
structure OP (w w2 : u) (M : Mach) (S1 : Sl) (ζ B : List π) (ι : u) : Prop where
 low:Below w.heap.size w ι
 bx:Bx ι w2.heap.size (kZ M S1 ζ B)
 old:∀ b,b<w2.heap.size->ι.heap[b]?=w2.heap[b]?
theorem OP.kept{w w2:u}{M:Mach}{S1:Sl}{ζ B:List π}{ι Y':u}(h:OP w w2 M S1 ζ B ι)(hb:Below ι.heap.size ι Y'):OP w w2 M S1 ζ B Y' :=
 ⟨bw h.low hb,h.bx.kept hb,λb a=>(hb.block b (by have:=h.bx.z;omega)).trans (h.old b a)⟩
section
variable {w w2 : u} {M : Mach} {S1 : Sl} {ζ B : List π} {ι : u} {g : Nat}
theorem OP.drew'(h:OP w w2 M S1 ζ B ι):OP w w2 M S1 ζ B ι.drew:=⟨h.low.drew,h.bx.drew,h.old⟩
theorem OP.bx'(h:OP w w2 M S1 ζ B ι)(a:w2.heap.size=g):Bx ι g (kZ M S1 ζ B):=a ▸ h.bx
theorem OP.th77(h:OP w w2 M S1 lI lI ι)(a:w2.heap.size=g):ι.there g 77 66:=(h.bx' a).there 77 66 (by rw[zeB _ _ _ _ xi xi];omega)
theorem OP.th143(h:OP w w2 M S1 ζ lI ι)(a:w2.heap.size=g)(b:ζ.length=66):ι.there g 143 66:=(h.bx' a).there 143 66 (by rw[zeB _ _ _ _ b xi];omega)
theorem OP.put1{a:List π}(h:OP w w2 M S1 lI lI ι)(d:w2.heap.size=g)(e:a.length=66)(f:w.heap.size<=g):OP w w2 M S1 a lI (ι.setCells g 77 a):=by
 subst d;have c:=h.bx.puts 77 a (by rw[zeB _ _ _ _ xi xi];omega);rw[zrw _ _ _ _ _ (by rw[e,xi])] at c;exact⟨Bl.puts h.low f _,c,λb hb=>(ji (by omega) _ _ _).trans (h.old b hb)⟩
theorem OP.put2{a:List π}(h:OP w w2 M S1 ζ lI ι)(e:w2.heap.size=g)(c:ζ.length=66)(hB:a.length=66)(f:w.heap.size<=g):OP w w2 M S1 ζ a (ι.setCells g 143 a):=by
 subst e;have d:=h.bx.puts 143 a (by rw[zeB _ _ _ _ c xi];omega);rw[zrx _ _ _ _ _ c (by rw[hB,xi])] at d;exact⟨Bl.puts h.low f _,d,λb hb=>(ji (by omega) _ _ _).trans (h.old b hb)⟩
theorem rG.keep{n:Nat}{Y':u}(h:rG g (mE n) ι)(hb:Below ι.drew.heap.size ι.drew Y'):rG g (mE n) Y':=by
 obtain⟨b,e1,e2,e3,e4,e5,e6,c,d,e,a⟩:=h;exact⟨b.drew.kept hb,e1.drew.kept hb,e2.drew.kept hb,e3.drew.kept hb,e4.drew.kept hb,e5.drew.kept hb,e6.drew.kept hb,c.drew.kept hb,d.drew.kept hb,e.drew.kept hb,a.drew.kept hb⟩
theorem rG.off{n o:Nat}{vs:List π}(h:rG g (mE n) ι)(f:g<n):rG g (mE n) (ι.setCells g o vs):=by
 obtain⟨b,e1,e2,e3,e4,e5,e6,c,d,e,a⟩:=h;exact⟨b.fars (by show g≠n+1;omega) _ _,e1.fars (by show g≠n+2;omega) _ _,e2.fars (by show g≠n+3;omega) _ _,e3.fars (by show g≠n+4;omega) _ _,e4.fars (by show g≠n+5;omega) _ _,e5.fars (by show g≠n+6;omega) _ _,e6.fars (by show g≠n+7;omega) _ _,c.fars (by show g≠n+8;omega) _ _,d.fars (by show g≠n+9;omega) _ _,e.fars (by show g≠n+10;omega) _ _,a.fars (by show g≠n+11;omega) _ _⟩
def ApB(g a:Nat)(ι:u):Prop:=Bx ι a [pt g 0] /\ ∀ k,k<24->Bx ι (a+3+2*k) [pt g 0]/\Bx ι (a+4+2*k) [J Q k]
theorem zA3{Z X w4:u}(h:LnAP Z g 24 X)(a:∀ k,k≠Z.heap.size+1->w4.heap[k]?=X.heap[k]?)(c:X.heap.size=w4.heap.size):ApB g Z.heap.size w4 :=
 ⟨h.b.same (cq c) (a _ (by omega)),λk d=>⟨(h.sb k d).1.same (cq c) (a _ (by omega)),(h.sb k d).2.same (cq c) (a _ (by omega))⟩⟩
theorem zA4{a o:Nat}{vs:List π}(h:ApB g a ι)(c:g<a):ApB g a (ι.setCells g o vs) :=
 ⟨h.1.fars (by omega) _ _,λk b=>⟨(h.2 k b).1.fars (by omega) _ _,(h.2 k b).2.fars (by omega) _ _⟩⟩
end
theorem zG(M:Mach)(S:Sl)(w:u)(hS:S.lens M)(hs:∀ j,j<5->sliceAt w (S.get j) (M.byt j))(hf:M.fit)(hf2:M.b.f<=20000):Δ ω 56 #[ac (υ M S).toArray] w λe w'=>∃ F:Fx,F.B=w.heap.size/\e=μ (.tuple #[pt F.g 0,J Q 0])/\(F.B<=F.mr/\F.B<=F.ar)/\Bd F w' M Tk.zero/\Below w.heap.size w w':=by
 have hB:=Bx.new w (υ M S) 41 (b:=w.heap.size) D;have HB:=hid hB;have HS:=hid hs;have HC:=hid (zjP hf hf2);have HSL:=hid hS;have HF:=hid hf;have r:=hid (zF hf);clear hB hs hS hf;go_enter func56,ntmps56;go_wp2_with (first
  | (refine wpList_load_mid D 41 _ D w.heap.size 0 D (υ M S) _ HB1.out.c underlying41 D cn ?_)
  | (refine wpList_load_mid D 41 _ D w.heap.size 0 D (υ M S) _ HB.out.c underlying41 D cn ?_)
  | (refine zcX D 142 0 _ D (ac (υ M S1).toArray) _ D (ztS M S1 _) ?_)
  | (go_at_call 105;refine(zfy M S _ HSL.out (λj s=>ax (r.out j s) (by omega))).mono ?_;rw[HC.out];rintro e w1 ⟨rfl,m⟩;have HB1:=hid (HB.out.kept m);have o:=hid (bw (stA (aR w) (.cells (υ M S).toArray 41)) m))
  | (go_at_call 106;refine(zn3 M S _ (λj s=>(HS.out j s).kept o.out) (λj s=>ax (r.out j s) (by omega))).mono ?_;rintro e w2 ⟨S1,rfl,ho,p⟩;have HO:=hid ho;have t:=hid (bw o.out p);have v:=p.size;clear ho p m))
 have x:w.heap.size<=w1.heap.size:=o.out.size;have HZ:=hid v;have k:=hid t.out.size;have HZ0:=hid x;refine Pl.cutW (OP w w2 M S1 lI lI) ⟨stA t.out _,Bx.new w2 _ _ D,λb hb=>kh _ _ _ hb⟩ ?_;intro ι hY;have HY:=hid hY;clear hY v x;generalize hg:w2.heap.size=g at *;have d:=hid hg;clear hg;refine wp_region_held_drew (S:=λ_=>True) (by kernel_rfl) trivial ?_;intro _;refine bH 0 trivial ?_;refine bH 1 trivial ?_;refine bH 2 trivial ?_;refine bH 3 trivial ?_;refine bH 4 trivial ?_;refine bH 5 trivial ?_;refine bH 6 trivial ?_;refine bH 7 trivial ?_;refine gy 8 (λK y=>?_);go_simp;go_at_call 108
 refine(zjM g _).mono ?_;rintro e w3 ⟨rfl,E,hE⟩;have H:=hid (HY.out.drew'.kept E);have HE:=hid hE;have HN:Hid (g<ι.drew.heap.size):=hid (by have:=HY.out.bx.z;rw[d.out] at this;exact this);clear E hE;generalize hn:ι.drew.heap.size=n at *;clear hn;try go_wp2_with fail
 refine gL y trivial (λ_=>?_);clear y K;refine jW 9 (ac (sM g n).toArray) D (λw _=>zE 140 0 1 2 _ _ _ D (pt g 30) (ik 107 g 0) (ac (eP (vP g (mE n)).rdM (vP g (mE n)).wrM 32).toArray) (ac (sM g n).toArray) D D D (zA1 g n w)) trivial ?_;refine bH 10 trivial ?_;refine bH 11 trivial ?_;refine tK (i:=12) (op:=⟨G,_,_,_,_,G⟩) (by kernel_rfl) D D 140 _ _ D g 77 (sM g n).toArray D D (by rw[xK];exact H.out.th77 d.out) (by rw[xK];exact zlF) (Ce g n) trivial ?_;refine wpAnyH_done (by kernel_rfl) ?_ _;refine Pl.cutE (λZ=>OP w w2 M S1 (sM g n) lI Z/\rG g (mE n) Z) ⟨OP.put1 H.out d.out (zC g n) k.out,HE.out.off HN.out⟩ ?_;rintro Z ⟨I,L⟩;have N:=hid I;have HZ2:=hid L;clear I L;go_wp2;refine wp_region_held_drew (S:=λ_=>True) (by kernel_rfl) trivial ?_;intro _;refine bH 0 trivial ?_;refine bH 1 trivial ?_;refine bH 2 trivial ?_;refine bH 3 trivial ?_;refine bH 4 trivial ?_;refine bH 5 trivial ?_;refine bH 6 trivial ?_
 refine bH 7 trivial ?_;refine gy 8 (λK y=>?_);go_simp;go_at_call 110
 refine(zjN g _).mono ?_;rintro e w4 ⟨rfl,X,hX,q,h,P⟩;have l:=hid (N.out.drew'.kept q);have HE4:=hid (HZ2.out.keep q);have HX:=hid (zA3 hX h P);have HA:Hid (g<Z.drew.heap.size):=hid (by have:=N.out.bx.z;rw[d.out] at this;exact this);clear q hX h P;generalize ha:Z.drew.heap.size=a at *;clear ha;try go_wp2_with fail
 refine gL y trivial (λ_=>?_);clear y K;refine jW 9 (ac (sA g a).toArray) D (λw _=>zE 140 0 1 2 _ _ _ D (pt g 31) (ik 109 g 0) (ac (tW a g 24).toArray) (ac (sA g a).toArray) D D D (zA2 g a w)) trivial ?_;refine bH 10 trivial ?_;refine bH 11 trivial ?_;refine tK (i:=12) (op:=⟨G,_,_,_,_,G⟩) (by kernel_rfl) D D 140 _ _ D g 143 (sA g a).toArray D D (by rw[xL];exact l.out.th143 d.out (zC g n)) (by rw[xL];exact zlF) (Cf g a) trivial ?_;refine wpAnyH_done (by kernel_rfl) ?_ _;refine Pl.cutE (λV=>∃ F:Fx,F.B=w.heap.size/\F.g=g/\(F.B<=F.mr/\F.B<=F.ar)/\Bd F V M Tk.zero/\Below w.heap.size w V) ?_ ?_
 ·obtain⟨F,f1,f2,f3,f4⟩:=Bd.make (B:=w.heap.size) (n:=n) (a:=a) HO.out (by have:=HZ0.out;omega) (HO.out.room HF.out) HF.out (by rw[d.out];exact(OP.put2 l.out d.out (zC g n) (zp5 g a) k.out).bx' d.out) (OP.put2 l.out d.out (zC g n) (zp5 g a) k.out).old (by rw[d.out];exact HE4.out.off HN.out) (by rw[d.out];exact HN.out) (by rw[d.out];exact zA4 HX.out HA.out) (by rw[d.out];exact HA.out)
  exact⟨F,f1,f2.trans d.out,f3,f4,(OP.put2 l.out d.out (zC g n) (zp5 g a) k.out).low⟩
 rintro V ⟨F,R,T,U,W,hV4⟩;have HV0:=hid U;have HV1:=hid R;have HV2:=hid T;have HV3:=hid W;have HV4:=hid hV4;clear R T W hV4 U;go_wp2
 go_ret2
 exact⟨F,HV1.out,by rw[HV2.out];rfl,HV0.out,HV3.out,HV4.out⟩
def cf(W:u)(S:Sl)(M:Mach):Prop:=∀ j,j<5->sliceAt W (S.get j) (M.byt j)
theorem cf.kept{W a:u}{S:Sl}{M:Mach}(h:cf W S M)(hb:Below W.heap.size W a):cf a S M:=λj b=>(h j b).kept hb
theorem cf.lens{W:u}{S:Sl}{M:Mach}(h:cf W S M):S.lens M:=λj a=>tV (h j a)
theorem Bd.slAt{F:Fx}{W:u}{M:Mach}{tk:Tk}(h:Bd F W M tk):cf W F.S M:=λj a=>by
 rcases five a with rfl|rfl|rfl|rfl|rfl
 ·exact h.mr.slice
 ·exact h.ar.slice
 ·exact h.ra.slice
 ·exact h.ow.slice
 ·exact h.vi.slice
theorem Bd.isSl{F:Fx}{W:u}{M:Mach}{tk:Tk}(h:Bd F W M tk):F.S.isSl:=λj b=>by
 obtain⟨a,c,e⟩:=h.slAt.lens j b;exact⟨_,_,_,e⟩
theorem Bd.row{F:Fx}{W:u}{M:Mach}{tk:Tk}(h:Bd F W M tk):W.rangeAt F.g 0 (υ M F.S):=λi v hi=>by
 refine h.at (0+i) v ?_;rw[aX];unfold Fx.cells;rw[bc (ay.1 hi).1];exact hi
def took(aux:Bool)(a n:Int):Int:=if aux then 0 else kt a n
def gA(n:Nat)(S:Sl):Prop:=∀ j,j<5->∀ a m c,S.get j=κ (A a) m c->n<=a.block
theorem Rw.ge{W:u}{v:π}{k n:Nat}{l:List UInt8}(h:Rw W v k l)(b:n<=k):∀(a:Addr) (m c:Nat),v=.slice (A a) m c->n<=a.block:=λa m c e=>by
 rcases h with⟨e1,_⟩|⟨d,e1,_⟩
 ·rw[e1] at e;cases e
 ·rw[e1] at e;cases e;exact b
theorem Bd.slNew{F:Fx}{W:u}{M:Mach}{tk:Tk}(h:Bd F W M tk)(a:F.B<=F.mr/\F.B<=F.ar):gA F.B F.S:=λj b=>by
 rcases five b with rfl|rfl|rfl|rfl|rfl
 ·exact h.mr.ge a.1
 ·exact h.ar.ge a.2
 ·exact h.ra.ge h.nd.lo.2.1
 ·exact h.ow.ge h.nd.lo.2.2.1
 ·exact h.vi.ge h.nd.lo.2.2.2
theorem gA.mono{n m:Nat}{S:Sl}(h:gA n S)(b:m<=n):gA m S:=λj d a k c e=>ax b (h j d a k c e)
theorem cf.off{W:u}{S:Sl}{M:Mach}{n b:Nat}(h:cf W S M)(e:gA n S)(hb:b<n)(o:Nat)(vs:List π):cf (W.setCells b o vs) S M:=λj d=>by
 rcases h j d with f|⟨g,o',a,e1,e2,e3,e4⟩
 ·exact Or.inl f
 ·have k:n<=g:=e j d _ _ _ e1
  exact Or.inr ⟨g,o',a,e1,e2,by rw[pN];exact e3,λi c hi=>(Φ (ji (x:=g) (b:=b) (by omega) vs o W)).trans (e4 i c hi)⟩
theorem Rw.offB{W:u}{v:π}{k b:Nat}{l:List UInt8}(h:Rw W v k l)(c:b≠k)(o:Nat)(vs:List π):Rw (W.setCells b o vs) v k l:=by
 rcases h with h|⟨a,e,d,f⟩
 ·exact Or.inl h
 ·exact Or.inr ⟨a,e,d,f.fars c o vs⟩
theorem zeN{P:bX}{ops:Array cG}{rest:List cG}{op:cG}{a:Act}{w:u}{η:Exit->Act->u->Prop}(c:op.guard=G)(t:aJ)(d:op.op=.build t #[])(v:π)
 (b:(dw t #[]).run P w=.ok v w) (h:dg P ops η rest (a.put op.dst v) w):dg P ops η (op::rest) a w :=
 wpList_build c t _ d v (by simp only[fy,dQ];exact b) h
theorem zqk(w:u):(dw 41 #[]).run ω w=.ok (ac (υ aD aP).toArray) w:=by kernel_rfl
theorem xT{s:List π}(h:s.length=3):∃ c0 c1 c2,s=[c0,c1,c2]:=by
 match s,h with
 | [c0,c1,c2],_=>exact⟨c0,c1,c2,D⟩
section
variable {H : Type} {enc : aJ × π -> H} {w : u} {base : Nat} {spare : Nat -> Bool} {held : Bool} {n : Nat} {x : DataW H × List MemPlace} {s : List π}
end
theorem yu{H:Type}{enc:aJ × π->H}{W:u}{v:π}{n:Nat}{x:DataW H × List MemPlace}(t:DataW.trod enc ω W 0 (λ_=>Γ) Γ n 26 [v]=A x):∃ l,sliceAt W v l/\l.length<=maxLen:=by
 have c1:Tryz.prog.cellsOf 5=1:=by kernel_rfl
 rcases open_ints underlying26 underlying5 c1 t with⟨hc,_⟩|⟨h,b,d,zs,hc,_,E,F,w,_,a,i⟩
 ·have e:v=κ G 0 0:=by simpa using hc
  rw[e];exact⟨[],Or.inl ⟨G,0,D,D⟩,by simp⟩
 ·have e:v=κ (A h) b d:=by simpa using hc
  rw[e];simp only[fO] at w;by_cases y:b=0
  ·subst y
   exact⟨[],Or.inl ⟨A h,d,D,D⟩,by simp⟩
  ·have B:=Pl.spot (a 0 (by omega))
   obtain⟨g,o,r⟩:=h;have k:r=G:=by
    cases r with
    | none=>rfl
    | some x=>simp[Addr.add] at B
   subst k;refine⟨(zs.take b).map (λz=>UInt8.ofNat z.toNat),Or.inr ⟨g,o,d,by rw[bf,bD,jv (by omega)],by rw[bf,bD];omega,aC W _ (a 0 (by omega)),λj c s=>?_⟩,by rw[bf,bD];omega⟩;rw[bn] at s;obtain⟨z,f,m⟩:=gn.1 s;have p:j<b:=by
    have:=(ay.1 f).1;rw[bD] at this;omega
   rw[dN p] at f;have q:j<zs.length:=(ay.1 f).1;have I:=kV (i z (bu f));have:=a j q;rw[addr_add,show zs.getD j 0=z by simp[List.getD,f]] at this;rw[this,<- m];rw[show (UInt8.ofNat z.toNat).toNat=z.toNat by simp;omega,show ((z.toNat:Nat):Int)=z by omega]
end Go.Proofs.YthghjlinhokimaaGreatDoor
