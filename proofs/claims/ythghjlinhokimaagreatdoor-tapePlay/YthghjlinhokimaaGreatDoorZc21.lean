/-
  Parts of a proof, joined.
-/
import Derived.Test.YthghjlinhokimaaGreatDoorZcA
import Derived.Test.YthghjlinhokimaaGreatDoorZc17
set_option linter.all false
set_option maxRecDepth 100000
set_option maxHeartbeats 6400000
namespace Go.Proofs.YthghjlinhokimaaGreatDoor
open Go.ChangeShapes Go.WideShapes Go.ChangeAt Go.RowKit Go.Proofs.Tryz
theorem zjS(a1 a2:Option Addr)(a c1 b c2:Nat)(w:World)(h1:a<=9223372036854775807)(h2:b<=9223372036854775807):Calls prog 178 #[.slice a1 a c1,.slice a2 b c2] w λe w'=>e=.returned (.int .i64 (if a<=1024/\b<=1024 then 0 else 2))/\w=w':=by
 by_cases h:a<=1024
 ·have c:¬ (1024:Int)<a:=by omega
  by_cases k:b<=1024
  ·have k':¬ (1024:Int)<b:=by omega
   rw[Q ⟨h,k⟩];clear h k;go_enter func178,ntmps178;go_wp2;go_ret;exact⟨U,U⟩
  ·have k':(1024:Int)<b:=by omega
   rw[G (λx=>k x.2)];clear h k;go_enter func178,ntmps178;go_wp2;go_ret;exact⟨U,U⟩
 ·have c:(1024:Int)<a:=by omega
  rw[G (λx=>h x.1)];clear h;go_enter func178,ntmps178;go_wp2;go_ret;exact⟨U,U⟩
theorem nk{Y:World}{b:Nat}{M:Mach}{S:Sl}(h:Bx Y b (D M S)):(∀ j,j<5->Y.cell? ⟨b,30+j,none⟩=some (S.get j))/\Y.cell? ⟨b,61,none⟩=some (.int .i64 M.b.l)/\Y.cell? ⟨b,62,none⟩=some (.int .i64 M.b.a)/\Y.cell? ⟨b,63,none⟩=some (.bool M.b.g)/\Y.cell? ⟨b,64,none⟩=some (.int .i64 M.b.f) /\
 Y.cell? ⟨b,72,none⟩=some (.int .i64 M.clock)/\Y.cell? ⟨b,73,none⟩=some (.int .i64 M.mready)/\Y.cell? ⟨b,74,none⟩=some (.int .i64 M.aready)/\b<Y.heap.size :=
 ⟨λj c=>h.at _ _ (zio M S j c),h.at 61 _ rfl,h.at 62 _ rfl,h.at 63 _ rfl,h.at 64 _ rfl,h.at 72 _ rfl,h.at 73 _ rfl,h.at 74 _ rfl,h.z⟩
theorem mw{Y:World}{b:Nat}{M:Mach}{S:Sl}{a0 a1 a2 a3 a4:Option Addr}{c0 c1 c2 c3 c4:Nat}(h:Bx Y b (D M S))(a:S.get 0=.slice a0 M.mrom.length c0)(e1:S.get 1=.slice a1 M.arom.length c1)(e2:S.get 2=.slice a2 M.ram.length c2)(e3:S.get 3=.slice a3 M.own.length c3)(e4:S.get 4=.slice a4 M.video.length c4):Y.cell? ⟨b,30,none⟩=some (.slice a0 M.mrom.length c0)/\Y.cell? ⟨b,31,none⟩=some (.slice a1 M.arom.length c1)/\Y.cell? ⟨b,32,none⟩=some (.slice a2 M.ram.length c2)/\Y.cell? ⟨b,33,none⟩=some (.slice a3 M.own.length c3)/\Y.cell? ⟨b,34,none⟩=some (.slice a4 M.video.length c4):=by
 rw[<- a,<- e1,<- e2,<- e3,<- e4];exact⟨h.at 30 _ U,h.at 31 _ U,h.at 32 _ U,h.at 33 _ U,h.at 34 _ U⟩
theorem wN{Y:World}{b:Nat}{M:Mach}{S:Sl}(a:S.lens M)(h:Bx Y b (D M S)):∃ a0 c0 a1 c1 a2 c2 a3 c3 a4 c4,Y.cell? ⟨b,30,none⟩=some (.slice a0 M.mrom.length c0)/\Y.cell? ⟨b,31,none⟩=some (.slice a1 M.arom.length c1)/\Y.cell? ⟨b,32,none⟩=some (.slice a2 M.ram.length c2)/\Y.cell? ⟨b,33,none⟩=some (.slice a3 M.own.length c3)/\Y.cell? ⟨b,34,none⟩=some (.slice a4 M.video.length c4):=by
 obtain⟨a0,c0,c⟩:=a 0 (by omega);obtain⟨a1,c1,e1⟩:=a 1 (by omega);obtain⟨a2,c2,e2⟩:=a 2 (by omega);obtain⟨a3,c3,e3⟩:=a 3 (by omega);obtain⟨a4,c4,e4⟩:=a 4 (by omega);exact⟨a0,c0,a1,c1,a2,c2,a3,c3,a4,c4,mw h c e1 e2 e3 e4⟩
theorem Sd.check(s:Sd)(w:World):Calls prog 117 #[.agg (dA s).toArray] w λe w'=>e=.returned (.int .i64 (if 0<=s.w/\s.w<=15 then 0 else 3))/\Below w.heap.size w w':=by
 by_cases h:0<=s.w/\s.w<=15
 ·rw[Q h];exact zg4 s w h
 ·rw[G h];exact zqf s w (by omega)
theorem Bem.check(b:Bem)(w:World):Calls prog 121 #[.agg #[.int .i64 b.l,.int .i64 b.a,.bool b.g,.int .i64 b.f]] w λe w'=>e=.returned (.int .i64 (if na b.l b.a b.f then 0 else 3))/\Below w.heap.size w w':=by
 cases h:na b.l b.a b.f
 ·exact zfv b.l b.a b.f b.g w (λx=>by rw[(oK _ _ _).2 x] at h;cases h)
 ·exact zca b.l b.a b.f b.g w ((oK _ _ _).1 h)
theorem zeV(M:Mach)(S:Sl)(w:World)(F:S.lens M)(p:∀ j,j<5->(M.byt j).length<=9223372036854775807):Calls prog 105 #[.agg (D M S).toArray] w λe w'=>e=.returned (.int .i64 M.chk)/\Below w.heap.size w w':=by
 have q:M.mrom.length<=9223372036854775807:=p 0 (by omega);have t:M.arom.length<=9223372036854775807:=p 1 (by omega);have hB:=Bx.new w (D M S) 41 (b:=w.heap.size) U;obtain⟨a0,c0,a1,c1,a2,c2,a3,c3,a4,c4,d0,d1,d2,d3,d4⟩:=wN F hB;obtain⟨_,f0,f1,f2,f3,f4,f5,f6,f7⟩:=nk hB;have H:=hid hB;have I:=hid (stA (J w) (.cells (D M S).toArray 41));obtain⟨ck,d⟩:∃ c,c=M.chk:=⟨_,U⟩
 rw[<- d];unfold Mach.chk at d;obtain⟨r,u⟩:∃ r,(if M.mrom.length<=1024/\M.arom.length<=1024 then (0:Int) else 2)=r:=⟨_,U⟩
 obtain⟨s,v⟩:∃ s,(if 0<=M.s.w/\M.s.w<=15 then (0:Int) else 3)=s:=⟨_,U⟩
 obtain⟨m,x⟩:∃ m,(if na M.b.l M.b.a M.b.f then (0:Int) else 3)=m:=⟨_,U⟩
 obtain⟨o,h1⟩:∃ k,decide (0<=M.clock/\M.clock<=200000)=k:=⟨_,U⟩
 obtain⟨y,h2⟩:∃ k,decide (0<=M.mready/\M.mready<=M.clock+20000)=k:=⟨_,U⟩
 obtain⟨L,h3⟩:∃ k,decide (0<=M.aready/\M.aready<=M.clock+20000)=k:=⟨_,U⟩
 have z:(r=2/\ck=2) \/ (r=0 /\ ¬ (M.ram.length:Int)=128/\ck=4) \/ (r=0/\M.ram.length=128 /\ ¬ (M.own.length:Int)=64/\ck=4) \/ (r=0/\M.ram.length=128/\M.own.length=64 /\ ¬ (M.video.length:Int)=256/\ck=4) \/
  (r=0/\M.ram.length=128/\M.own.length=64/\M.video.length=256/\((s=3/\ck=3) \/ (s=0/\m=3/\ck=3) \/ (s=0/\m=0/\o=false/\ck=3) \/ (s=0/\m=0/\o=true/\y=false/\ck=3/\0<=M.clock/\M.clock<=200000) \/ (s=0/\m=0/\o=true/\y=true/\L=false/\ck=3/\0<=M.clock/\M.clock<=200000) \/ (s=0/\m=0/\o=true/\y=true/\L=true/\ck=0/\0<=M.clock/\M.clock<=200000))):=by
  subst u v x h1 h2 h3 d;by_cases q1:M.mrom.length<=1024/\M.arom.length<=1024
  ·by_cases N:M.ram.length=128/\M.own.length=64/\M.video.length=256
   ·by_cases R:0<=M.s.w/\M.s.w<=15 <;> by_cases T:na M.b.l M.b.a M.b.f=true <;> by_cases V:0<=M.clock/\M.clock<=200000 <;> by_cases W:0<=M.mready/\M.mready<=M.clock+20000 <;> by_cases X:0<=M.aready/\M.aready<=M.clock+20000 <;> simp[q1,N,R,T,V,W,X]
   ·simp[q1,N]
    omega
  ·simp[q1]
 have Y:=hid u;have Z:=hid v;have HM:=hid x;have K1:=hid h1;have K2:=hid h2;have K3:=hid h3;clear u v x h1 h2 h3 d hB F p;rcases z with⟨rfl,rfl⟩|⟨rfl,l0,rfl⟩|⟨rfl,l0,l1,rfl⟩|⟨rfl,l0,l1,l2,rfl⟩|⟨rfl,l0,l1,l2,⟨rfl,rfl⟩|⟨rfl,rfl,rfl⟩|⟨rfl,rfl,rfl,rfl⟩|⟨rfl,rfl,rfl,rfl,rfl,l3,P⟩|⟨rfl,rfl,rfl,rfl,rfl,rfl,l3,P⟩|⟨rfl,rfl,rfl,rfl,rfl,rfl,l3,P⟩⟩
 all_goals
  go_enter func105,ntmps105;go_wp2_with (first
   | (go_at_call 178;refine(zjS _ _ _ _ _ _ _ q t).mono ?_;rw[Y.out];rintro e w0 ⟨rfl,rfl⟩)
   | (refine wpList_load_mid U 36 _ U w.heap.size 45 U (dA M.s) _ H.out.sndR underlying36 U kJ ?_)
   | (go_at_call 117;refine(Sd.check M.s _).mono ?_;rw[Z.out];rintro e w1 ⟨rfl,g⟩;have h:=hid (H.out.kept g);have i:=hid (bn I.out g);obtain⟨_,x0,x1,x2,x3,x4,x5,x6,x7⟩:=nk h.out)
   | (go_at_call 121;refine(Bem.check M.b _).mono ?_;rw[HM.out];rintro e w2 ⟨rfl,n⟩;have B:=hid (h.out.kept n);have E:=hid (bn i.out n);obtain⟨_,y0,y1,y2,y3,y4,y5,y6,y7⟩:=nk B.out)
   | (go_at_call 179;refine(zid _ _ _).mono ?_;(first|rw[K1.out]|rw[K2.out]|rw[K3.out]);rintro e w0 ⟨rfl,rfl⟩))
  go_ret;first|exact⟨U,E.out⟩|exact⟨U,i.out⟩|exact⟨U,I.out⟩
theorem zcA{P:Program}{ops:Array Oper}{rest:List Oper}{op:Oper}{a:Act}{w:World}{aj:Exit->Act->World->Prop}(c:op.guard=none)(t:TypeId)(i:Nat)(x:Operand)(e:op.op=.build t #[(i,x)])(d v:Value)(f:a.eval x=d)
 (b:(Instr.build t #[(i,d)]).run P w=.ok v w) (h:wpList P ops aj rest (a.put op.dst v) w):wpList P ops aj (op::rest) a w :=
 wpList_build c t _ e v (by simp only[dj,bP,cB,f];exact b) h
theorem tO{P:Program}{a:Act}{o:Oper}{w:World}(t:TypeId)(i j k:Nat)(x y z:Operand)(f:o.op=.build t #[(i,x),(j,y),(k,z)])(c d e v:Value)(g:a.eval x=c)(h:a.eval y=d)(l:a.eval z=e)
 (b:(Instr.build t #[(i,c),(j,d),(k,e)]).run P w=.ok v w):(execOp a.eval o).run P w=.ok (.value v) w :=
 zde t _ f v (by simp only[dj,bP,cB,g,h,l];exact b)
theorem zxV(g n:Nat)(w:World):(Instr.build 140 #[(0,pt g 30),(1,dX 107 g 0),(2,.agg (cT (pC g (mE n)).rdM (pC g (mE n)).wrM 32).toArray)]).run prog w=.ok (.agg (sM g n).toArray) w:=by kernel_rfl
theorem zxW(g a:Nat)(w:World):(Instr.build 140 #[(0,pt g 31),(1,dX 109 g 0),(2,.agg (oL a g 24).toArray)]).run prog w=.ok (.agg (sA g a).toArray) w:=by kernel_rfl
theorem pE{P:Program}{md:Region.Mode}{ops:Array Oper}{aj:Exit->Act->World->Prop}{S:World->Prop}{fuel:Nat}{c:Array Bool}{a:Act}{w:World}{i:Nat}{op:Oper}(e:Region.ready md ops c=[i])(hi:ops[i]?=some op)(d:op.guard=none)(ty:TypeId)(x y:Operand)(f:op.op=.store ty x y)
 (b o:Nat) (cells:Array Value) (g:a.eval x=.pointer (some ⟨b,o,none⟩)) (j:a.eval y=.agg cells) (k:w.there b o cells.size) (l:(P.info? ty).map (·.size)=some cells.size) (h1:cells.all (·.oneCell')=true) (m:S (w.setCells b o cells.toList))
 (h:wpAnyH P md ops aj S fuel (c.setIfInBounds i true) (a.put op.dst undef) (w.setCells b o cells.toList)):wpAnyH P md ops aj S (fuel+1) c a w :=
 wpAnyH_ready e (by simp) (AllReadyH.cons hi (λK n=>lW d ty x y f b o cells g j k l h1 (n.out _ _ m (λ_=>h))) AllReadyH.nil)
theorem qK(g n:Nat):(sM g n).toArray.size=66:=by rw[gk,sG]
theorem qL(g n:Nat):(sA g n).toArray.size=66:=by rw[gk,znz]
theorem sH{M:Mach}(a:M.fit):∀ j,j<5->(M.byt j).length<=1024:=λj b=>by
 rcases five b with rfl|rfl|rfl|rfl|rfl
 ·exact a.mrom
 ·exact a.arom
 ·show M.ram.length<=1024;rw[a.ram];omega
 ·show M.own.length<=1024;rw[a.own];omega
 ·show M.video.length<=1024;rw[a.video];omega
theorem rr(M:Mach)(S:Sl)(w:World)(i:S.lens M)(k:∀ j,j<5->(M.byt j).length<=9223372036854775807)(hc:M.chk≠0):Calls prog 56 #[.agg (D M S).toArray] w λe w'=>e=.returned (.tuple #[.pointer none,.int .i64 M.chk])/\Below w.heap.size w w':=by
 have hB:=Bx.new w (D M S) 41 (b:=w.heap.size) U;have l:=hid hB;have d:=hid i;have m:=hid k;have n:(M.chk == 0)=false:=by simpa using hc
 clear hB i k hc;generalize a:M.chk=c at *;have f:=hid a;clear a;go_enter func56,ntmps56;go_wp2_with (first
  | (refine wpList_load_mid U 41 _ U w.heap.size 0 U (D M S) _ l.out.c underlying41 U bV ?_)
  | (go_at_call 105;refine(zeV M S _ d.out m.out).mono ?_;rw[f.out];rintro e w1 ⟨rfl,g⟩;have h:=hid (bn (stA (J w) (.cells (D M S).toArray 41)) g)))
 go_ret2
 exact⟨U,h.out⟩
theorem qM{v0 b:Value}{L:List Value}(c:v0.oneCell'=true)(h1:b.oneCell'=true)(h:∀ v∈L,v.oneCell'=true):(v0::b::L).toArray.all (·.oneCell')=true :=
 all_oneCell_toArray (λv a=>by
  simp only[aV] at a;rcases a with rfl|rfl|a
  ·exact c
  ·exact h1
  ·exact h v a)
theorem wO(g n:Nat):(sM g n).toArray.all (·.oneCell')=true:=qM rfl rfl (λv a=>by
 obtain⟨i,rfl|rfl⟩:=zd5 _ _ v 32 a
 ·exact vJ _ _
 ·exact vK _ _)
theorem wP(g a:Nat):(sA g a).toArray.all (·.oneCell')=true:=qM rfl rfl (λv b=>by
 obtain⟨i,rfl|rfl⟩:=zd5 _ _ v 32 b
 ·unfold apR;split <;> rfl
 ·unfold rp;split
  ·rfl
  ·split <;> rfl)
theorem OwnK.room{B:Nat}{M:Mach}{S:Sl}{Y:World}(h:OwnK B M S 5 Y)(a:M.fit):B<=Y.heap.size:=by
 rcases h.own 2 (by omega) with⟨_,e⟩|⟨b,c,_,_,h3,h4⟩
 ·have d:M.ram=[]:=e
  have:=a.ram;rw[d] at this;simp at this
 ·have:=h4.z;omega
structure OP (w w2 : World) (M : Mach) (S1 : Sl) (ai B : List Value) (Y : World) : Prop where
 low:Below w.heap.size w Y
 bx:Bx Y w2.heap.size (iv M S1 ai B)
 old:∀ b,b<w2.heap.size->Y.heap[b]?=w2.heap[b]?
theorem OP.kept{w w2:World}{M:Mach}{S1:Sl}{ai B:List Value}{Y Y':World}(h:OP w w2 M S1 ai B Y)(hb:Below Y.heap.size Y Y'):OP w w2 M S1 ai B Y' :=
 ⟨bn h.low hb,h.bx.kept hb,λb a=>(hb.block b (by have:=h.bx.z;omega)).trans (h.old b a)⟩
section
variable {w w2 : World} {M : Mach} {S1 : Sl} {ai B : List Value} {Y : World} {g : Nat}
theorem OP.drew'(h:OP w w2 M S1 ai B Y):OP w w2 M S1 ai B Y.drew:=⟨h.low.drew,h.bx.drew,h.old⟩
theorem OP.bx'(h:OP w w2 M S1 ai B Y)(a:w2.heap.size=g):Bx Y g (iv M S1 ai B):=a ▸ h.bx
theorem OP.th77(h:OP w w2 M S1 iK iK Y)(a:w2.heap.size=g):Y.there g 77 66:=(h.bx' a).there 77 66 (by rw[zd6 _ _ _ _ qp qp];omega)
theorem OP.th143(h:OP w w2 M S1 ai iK Y)(a:w2.heap.size=g)(b:ai.length=66):Y.there g 143 66:=(h.bx' a).there 143 66 (by rw[zd6 _ _ _ _ b qp];omega)
theorem OP.put1{a:List Value}(h:OP w w2 M S1 iK iK Y)(d:w2.heap.size=g)(e:a.length=66)(f:w.heap.size<=g):OP w w2 M S1 a iK (Y.setCells g 77 a):=by
 subst d;have c:=h.bx.puts 77 a (by rw[zd6 _ _ _ _ qp qp];omega);rw[zoQ _ _ _ _ _ (by rw[e,qp])] at c;exact⟨Bl.puts h.low f _,c,λb hb=>(fO (by omega) _ _ _).trans (h.old b hb)⟩
theorem OP.put2{a:List Value}(h:OP w w2 M S1 ai iK Y)(e:w2.heap.size=g)(c:ai.length=66)(hB:a.length=66)(f:w.heap.size<=g):OP w w2 M S1 ai a (Y.setCells g 143 a):=by
 subst e;have d:=h.bx.puts 143 a (by rw[zd6 _ _ _ _ c qp];omega);rw[zoR _ _ _ _ _ c (by rw[hB,qp])] at d;exact⟨Bl.puts h.low f _,d,λb hb=>(fO (by omega) _ _ _).trans (h.old b hb)⟩
theorem mP.keep{n:Nat}{Y':World}(h:mP g (mE n) Y)(hb:Below Y.drew.heap.size Y.drew Y'):mP g (mE n) Y':=by
 obtain⟨b,e1,e2,e3,e4,e5,e6,c,d,e,a⟩:=h;exact⟨b.drew.kept hb,e1.drew.kept hb,e2.drew.kept hb,e3.drew.kept hb,e4.drew.kept hb,e5.drew.kept hb,e6.drew.kept hb,c.drew.kept hb,d.drew.kept hb,e.drew.kept hb,a.drew.kept hb⟩
theorem mP.off{n o:Nat}{vs:List Value}(h:mP g (mE n) Y)(f:g<n):mP g (mE n) (Y.setCells g o vs):=by
 obtain⟨b,e1,e2,e3,e4,e5,e6,c,d,e,a⟩:=h;exact⟨b.fars (by show g≠n+1;omega) _ _,e1.fars (by show g≠n+2;omega) _ _,e2.fars (by show g≠n+3;omega) _ _,e3.fars (by show g≠n+4;omega) _ _,e4.fars (by show g≠n+5;omega) _ _,e5.fars (by show g≠n+6;omega) _ _,e6.fars (by show g≠n+7;omega) _ _,c.fars (by show g≠n+8;omega) _ _,d.fars (by show g≠n+9;omega) _ _,e.fars (by show g≠n+10;omega) _ _,a.fars (by show g≠n+11;omega) _ _⟩
def ApB(g a:Nat)(Y:World):Prop:=Bx Y a [pt g 0] /\ ∀ k,k<24->Bx Y (a+3+2*k) [pt g 0]/\Bx Y (a+4+2*k) [.int .i64 k]
theorem zxX{Z X w4:World}(h:LnAP Z g 24 X)(a:∀ k,k≠Z.heap.size+1->w4.heap[k]?=X.heap[k]?)(c:X.heap.size=w4.heap.size):ApB g Z.heap.size w4 :=
 ⟨h.b.same (bA c) (a _ (by omega)),λk d=>⟨(h.sb k d).1.same (bA c) (a _ (by omega)),(h.sb k d).2.same (bA c) (a _ (by omega))⟩⟩
theorem zxY{a o:Nat}{vs:List Value}(h:ApB g a Y)(c:g<a):ApB g a (Y.setCells g o vs) :=
 ⟨h.1.fars (by omega) _ _,λk b=>⟨(h.2 k b).1.fars (by omega) _ _,(h.2 k b).2.fars (by omega) _ _⟩⟩
end
theorem sI(M:Mach)(S:Sl)(w:World)(hS:S.lens M)(hs:∀ j,j<5->sliceAt w (S.get j) (M.byt j))(hf:M.fit)(hf2:M.b.f<=20000):Calls prog 56 #[.agg (D M S).toArray] w λe w'=>∃ F:Fx,F.B=w.heap.size/\e=.returned (.tuple #[pt F.g 0,.int .i64 0])/\(F.B<=F.mr/\F.B<=F.ar)/\Bd F w' M Tk.zero/\Below w.heap.size w w':=by
 have hB:=Bx.new w (D M S) 41 (b:=w.heap.size) U;have HB:=hid hB;have HS:=hid hs;have HC:=hid (zip hf hf2);have HSL:=hid hS;have HF:=hid hf;have r:=hid (sH hf);clear hB hs hS hf;go_enter func56,ntmps56;go_wp2_with (first
  | (refine wpList_load_mid U 41 _ U w.heap.size 0 U (D M S) _ HB1.out.c underlying41 U bV ?_)
  | (refine wpList_load_mid U 41 _ U w.heap.size 0 U (D M S) _ HB.out.c underlying41 U bV ?_)
  | (refine zcA U 142 0 _ U (.agg (D M S1).toArray) _ U (zrg M S1 _) ?_)
  | (go_at_call 105;refine(zeV M S _ HSL.out (λj s=>ax (r.out j s) (by omega))).mono ?_;rw[HC.out];rintro e w1 ⟨rfl,m⟩;have HB1:=hid (HB.out.kept m);have o:=hid (bn (stA (J w) (.cells (D M S).toArray 41)) m))
  | (go_at_call 106;refine(zlR M S _ (λj s=>(HS.out j s).kept o.out) (λj s=>ax (r.out j s) (by omega))).mono ?_;rintro e w2 ⟨S1,rfl,ho,p⟩;have HO:=hid ho;have t:=hid (bn o.out p);have u:=p.size;clear ho p m))
 have v:w.heap.size<=w1.heap.size:=o.out.size;have HZ:=hid u;have k:=hid t.out.size;have HZ0:=hid v;refine Pl.cutW (OP w w2 M S1 iK iK) ⟨stA t.out _,Bx.new w2 _ _ U,λb hb=>gJ _ _ _ hb⟩ ?_;intro Y hY;have HY:=hid hY;clear hY u v;generalize hg:w2.heap.size=g at *;have d:=hid hg;clear hg;refine wp_region_held_drew (S:=λ_=>True) (by kernel_rfl) trivial ?_;intro _;refine A 0 trivial ?_;refine A 1 trivial ?_;refine A 2 trivial ?_;refine A 3 trivial ?_;refine A 4 trivial ?_;refine A 5 trivial ?_;refine A 6 trivial ?_;refine A 7 trivial ?_;refine dQ 8 (λK x=>?_);go_simp;go_at_call 108
 refine(zim g _).mono ?_;rintro e w3 ⟨rfl,y,hE⟩;have E:=hid (HY.out.drew'.kept y);have HE:=hid hE;have HN:Hid (g<Y.drew.heap.size):=hid (by have:=HY.out.bx.z;rw[d.out] at this;exact this);clear y hE;generalize hn:Y.drew.heap.size=n at *;clear hn;try go_wp2_with fail
 refine eP x trivial (λ_=>?_);clear x K;refine iq 9 (.agg (sM g n).toArray) U (λw _=>tO 140 0 1 2 _ _ _ U (pt g 30) (dX 107 g 0) (.agg (cT (pC g (mE n)).rdM (pC g (mE n)).wrM 32).toArray) (.agg (sM g n).toArray) U U U (zxV g n w)) trivial ?_;refine A 10 trivial ?_;refine A 11 trivial ?_;refine pE (i:=12) (op:=⟨none,_,_,_,_,none⟩) (by kernel_rfl) U U 140 _ _ U g 77 (sM g n).toArray U U (by rw[qK];exact E.out.th77 d.out) (by rw[qK];exact zjR) (wO g n) trivial ?_;refine wpAnyH_done (by kernel_rfl) ?_ _;refine Pl.cutE (λZ=>OP w w2 M S1 (sM g n) iK Z/\mP g (mE n) Z) ⟨OP.put1 E.out d.out (sG g n) k.out,HE.out.off HN.out⟩ ?_;rintro Z ⟨H,I⟩;have L:=hid H;have HZ2:=hid I;clear H I;go_wp2;refine wp_region_held_drew (S:=λ_=>True) (by kernel_rfl) trivial ?_;intro _;refine A 0 trivial ?_;refine A 1 trivial ?_;refine A 2 trivial ?_;refine A 3 trivial ?_;refine A 4 trivial ?_;refine A 5 trivial ?_;refine A 6 trivial ?_
 refine A 7 trivial ?_;refine dQ 8 (λK x=>?_);go_simp;go_at_call 110
 refine(zin g _).mono ?_;rintro e w4 ⟨rfl,X,hX,q,h,N⟩;have l:=hid (L.out.drew'.kept q);have HE4:=hid (HZ2.out.keep q);have HX:=hid (zxX hX h N);have HA:Hid (g<Z.drew.heap.size):=hid (by have:=L.out.bx.z;rw[d.out] at this;exact this);clear q hX h N;generalize ha:Z.drew.heap.size=a at *;clear ha;try go_wp2_with fail
 refine eP x trivial (λ_=>?_);clear x K;refine iq 9 (.agg (sA g a).toArray) U (λw _=>tO 140 0 1 2 _ _ _ U (pt g 31) (dX 109 g 0) (.agg (oL a g 24).toArray) (.agg (sA g a).toArray) U U U (zxW g a w)) trivial ?_;refine A 10 trivial ?_;refine A 11 trivial ?_;refine pE (i:=12) (op:=⟨none,_,_,_,_,none⟩) (by kernel_rfl) U U 140 _ _ U g 143 (sA g a).toArray U U (by rw[qL];exact l.out.th143 d.out (sG g n)) (by rw[qL];exact zjR) (wP g a) trivial ?_;refine wpAnyH_done (by kernel_rfl) ?_ _;refine Pl.cutE (λV=>∃ F:Fx,F.B=w.heap.size/\F.g=g/\(F.B<=F.mr/\F.B<=F.ar)/\Bd F V M Tk.zero/\Below w.heap.size w V) ?_ ?_
 ·obtain⟨F,f1,f2,f3,f4⟩:=Bd.make (B:=w.heap.size) (n:=n) (a:=a) HO.out (by have:=HZ0.out;omega) (HO.out.room HF.out) HF.out (by rw[d.out];exact(OP.put2 l.out d.out (sG g n) (znz g a) k.out).bx' d.out) (OP.put2 l.out d.out (sG g n) (znz g a) k.out).old (by rw[d.out];exact HE4.out.off HN.out) (by rw[d.out];exact HN.out) (by rw[d.out];exact zxY HX.out HA.out) (by rw[d.out];exact HA.out)
  exact⟨F,f1,f2.trans d.out,f3,f4,(OP.put2 l.out d.out (sG g n) (znz g a) k.out).low⟩
 rintro V ⟨F,P,R,T,W,hV4⟩;have HV0:=hid T;have HV1:=hid P;have HV2:=hid R;have HV3:=hid W;have HV4:=hid hV4;clear P R W hV4 T;go_wp2
 go_ret2
 exact⟨F,HV1.out,by rw[HV2.out];rfl,HV0.out,HV3.out,HV4.out⟩
def bM(W:World)(S:Sl)(M:Mach):Prop:=∀ j,j<5->sliceAt W (S.get j) (M.byt j)
theorem bM.kept{W a:World}{S:Sl}{M:Mach}(h:bM W S M)(hb:Below W.heap.size W a):bM a S M:=λj b=>(h j b).kept hb
theorem bM.lens{W:World}{S:Sl}{M:Mach}(h:bM W S M):S.lens M:=λj a=>oJ (h j a)
theorem Bd.slAt{F:Fx}{W:World}{M:Mach}{tk:Tk}(h:Bd F W M tk):bM W F.S M:=λj a=>by
 rcases five a with rfl|rfl|rfl|rfl|rfl
 ·exact h.mr.slice
 ·exact h.ar.slice
 ·exact h.ra.slice
 ·exact h.ow.slice
 ·exact h.vi.slice
theorem Bd.isSl{F:Fx}{W:World}{M:Mach}{tk:Tk}(h:Bd F W M tk):F.S.isSl:=λj b=>by
 obtain⟨a,c,e⟩:=h.slAt.lens j b;exact⟨_,_,_,e⟩
theorem Bd.row{F:Fx}{W:World}{M:Mach}{tk:Tk}(h:Bd F W M tk):W.rangeAt F.g 0 (D M F.S):=λi v hi=>by
 refine h.at (0+i) v ?_;rw[aN];unfold Fx.cells;rw[aR (aA.1 hi).1];exact hi
def took(aux:Bool)(a n:Int):Int:=if aux then 0 else ia a n
def dY(n:Nat)(S:Sl):Prop:=∀ j,j<5->∀ a m c,S.get j=.slice (some a) m c->n<=a.block
theorem Rw.ge{W:World}{v:Value}{k n:Nat}{l:List UInt8}(h:Rw W v k l)(b:n<=k):∀(a:Addr) (m c:Nat),v=.slice (Option.some a) m c->n<=a.block:=λa m c e=>by
 rcases h with⟨e1,_⟩|⟨d,e1,_⟩
 ·rw[e1] at e;cases e
 ·rw[e1] at e;cases e;exact b
theorem Bd.slNew{F:Fx}{W:World}{M:Mach}{tk:Tk}(h:Bd F W M tk)(a:F.B<=F.mr/\F.B<=F.ar):dY F.B F.S:=λj b=>by
 rcases five b with rfl|rfl|rfl|rfl|rfl
 ·exact h.mr.ge a.1
 ·exact h.ar.ge a.2
 ·exact h.ra.ge h.nd.lo.2.1
 ·exact h.ow.ge h.nd.lo.2.2.1
 ·exact h.vi.ge h.nd.lo.2.2.2
theorem dY.mono{n m:Nat}{S:Sl}(h:dY n S)(b:m<=n):dY m S:=λj d a k c e=>ax b (h j d a k c e)
theorem bM.off{W:World}{S:Sl}{M:Mach}{n b:Nat}(h:bM W S M)(e:dY n S)(hb:b<n)(o:Nat)(vs:List Value):bM (W.setCells b o vs) S M:=λj d=>by
 rcases h j d with f|⟨g,o',a,e1,e2,e3,e4⟩
 ·exact Or.inl f
 ·have k:n<=g:=e j d _ _ _ e1
  exact Or.inr ⟨g,o',a,e1,e2,by rw[lU];exact e3,λi c hi=>(am (fO (x:=g) (b:=b) (by omega) vs o W)).trans (e4 i c hi)⟩
theorem Rw.offB{W:World}{v:Value}{k b:Nat}{l:List UInt8}(h:Rw W v k l)(c:b≠k)(o:Nat)(vs:List Value):Rw (W.setCells b o vs) v k l:=by
 rcases h with h|⟨a,e,d,f⟩
 ·exact Or.inl h
 ·exact Or.inr ⟨a,e,d,f.fars c o vs⟩
theorem zek{P:Program}{ops:Array Oper}{rest:List Oper}{op:Oper}{a:Act}{w:World}{aj:Exit->Act->World->Prop}(c:op.guard=none)(t:TypeId)(d:op.op=.build t #[])(v:Value)
 (b:(Instr.build t #[]).run P w=.ok v w) (h:wpList P ops aj rest (a.put op.dst v) w):wpList P ops aj (op::rest) a w :=
 wpList_build c t _ d v (by simp only[dj,cB];exact b) h
theorem znK(w:World):(Instr.build 41 #[]).run prog w=.ok (.agg (D aE aM).toArray) w:=by kernel_rfl
theorem qS{s:List Value}(h:s.length=3):∃ c0 c1 c2,s=[c0,c1,c2]:=by
 match s,h with
 | [c0,c1,c2],_=>exact⟨c0,c1,c2,U⟩
section
variable {H : Type} {enc : TypeId × Value -> H} {w : World} {base : Nat} {spare : Nat -> Bool} {held : Bool} {n : Nat} {x : DataW H × List MemPlace} {s : List Value}
end
theorem rB{H:Type}{enc:TypeId × Value->H}{W:World}{v:Value}{n:Nat}{x:DataW H × List MemPlace}(t:DataW.trod enc prog W 0 (λ_=>true) true n 26 [v]=some x):∃ l,sliceAt W v l/\l.length<=maxLen:=by
 have c1:Tryz.prog.cellsOf 5=1:=by kernel_rfl
 rcases open_ints underlying26 underlying5 c1 t with⟨hc,_⟩|⟨h,b,d,zs,hc,_,B,E,u,_,a,i⟩
 ·have e:v=.slice none 0 0:=by simpa using hc
  rw[e];exact⟨[],Or.inl ⟨none,0,U,U⟩,by simp⟩
 ·have e:v=.slice (some h) b d:=by simpa using hc
  rw[e];simp only[dL] at u;by_cases w:b=0
  ·subst w
   exact⟨[],Or.inl ⟨some h,d,U,U⟩,by simp⟩
  ·have y:=Pl.spot (a 0 (by omega))
   obtain⟨g,o,r⟩:=h;have k:r=none:=by
    cases r with
    | none=>rfl
    | some x=>simp[Addr.add] at y
   subst k;refine⟨(zs.take b).map (λz=>UInt8.ofNat z.toNat),Or.inr ⟨g,o,d,by rw[ba,bu,gY (by omega)],by rw[ba,bu];omega,aG W _ (a 0 (by omega)),λj c s=>?_⟩,by rw[ba,bu];omega⟩;rw[aX] at s;obtain⟨z,f,m⟩:=eF.1 s;have p:j<b:=by
    have:=(aA.1 f).1;rw[bu] at this;omega
   rw[cK p] at f;have q:j<zs.length:=(aA.1 f).1;have F:=io (i z (bh f));have:=a j q;rw[addr_add,show zs.getD j 0=z by simp[List.getD,f]] at this;rw[this,<- m];rw[show (UInt8.ofNat z.toNat).toNat=z.toNat by simp;omega,show ((z.toNat:Nat):Int)=z by omega]
end Go.Proofs.YthghjlinhokimaaGreatDoor
