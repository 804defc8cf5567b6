/-
  Parts of a proof, joined.
-/
import Derived.Test.YthghjlinhokimaaGreatDoorZbA
import Derived.Test.YthghjlinhokimaaGreatDoorZb14
import Derived.Test.YthghjlinhokimaaGreatDoorZb16
set_option linter.all false
set_option maxRecDepth 100000
set_option maxHeartbeats 3200000
open Option renaming none->G,some->A
open Go renaming World->u,Calls->Δ
open Bool renaming false->ξ,true->Γ
open Go.Proofs.Tryz renaming prog->ω
open Go.Act renaming put->ag
open Int renaming tmod->bl
open Go.IntKind renaming signed->cP,wrap->dB,bits->dC,i64->Q,u16->Y,u8->au
open Go.Value renaming int->J,slice->κ,bool->ν,tuple->Ψ
open Go.Ending renaming returned->μ
namespace Go.Proofs.YthghjlinhokimaaGreatDoor
open Go.ChangeShapes Go.WideShapes Go.ChangeAt Go.RowKit Go.Proofs.Tryz
section
variable {F : Fx} {W : u} {M M' : Mach} {tk : Tk}
theorem zy2:∀ s:Nat,s<256->bits .and au (s:Int) 2=((s:Int)/2%2)*2:=by decide +kernel
theorem zjH(s:Int)(h:0<=s/\s<=255):bits .and au s 2=s/2%2*2:=by
 obtain⟨k,rfl⟩:=aA h.1;exact zy2 k (by omega)
theorem zt(x:Int):(x%2=0/\et x=ξ) \/ (x%2=1/\et x=Γ):=by
 unfold et;rcases(by omega:x%2=0 \/ x%2=1) with h|h
 ·exact Or.inl ⟨h,by rw[h];rfl⟩
 ·exact Or.inr ⟨h,by rw[h];rfl⟩
theorem ztG{l:Bool}{a b:Int}(c:je a)(hb:je b):je (ir l a b):=znN (P:=je) l c hb
theorem TM.put_bd{t:TM}(n:Int)(h1:je t.r)(h2:je t.c):je (t.put n).r/\je (t.put n).c:=⟨h1,ztG h1 h2⟩
theorem zrn(h:Bd F W M tk)(n:Int)(o:0<=n/\n<=255):Δ ω 187 #[pt F.g 0,J au n] W λe w'=>e=μ (Ψ #[])/\Bd F w' (M.putM 4 n) tk/\Bt F W w':=by
 have c0:=h.at 41 (J Y M.t.r) D;have c1:=h.at 42 (J Y M.t.c) D;have c2:=h.at 43 (ν M.t.on) D;have c3:=h.at 44 (ν M.t.g) D;have y:=h.bx.f;have i:=h.bx.z;have H:=hid h;have v:=TM.put_bd (t:=M.t) n h.fit.tr h.fit.tc;have a1:=zfN n o;have a2:=zjH n o;have w:M.putM 4 n={ M with t:=M.t.put n }:=D;rw[w];have x:Mach.fit { M with t:=M.t.put n }:={ H.out.fit with main:=H.out.fit.main,tr:=v.1,tc:=v.2 }
 have j:=hid x;clear h x w;rcases zt n with⟨p,q⟩|⟨p,q⟩
 all_goals
  rw[p] at a1;rcases zt (n/2) with⟨r,s⟩|⟨r,s⟩
 all_goals
  rw[r] at a2;have k:=hid q;have m:=hid s;clear p q r s
 ·go_enter func187,ntmps187
  go_wp2_with (go_at_call 245;refine(zjG _ _ _ _ _ _).mono ?_;rintro e w1 ⟨rfl,d⟩;obtain⟨k1,f1⟩:=cj d;have z2:F.g<w1.heap.size:=vO i d (by simp))
  go_end0;refine⟨D,?_,?_⟩
  ·exact(H.out.kept d).puts (M':={ M with t:=M.t.put n }) (tk':=tk) 41 [J Y M.t.r,J Y (ir ξ M.t.r M.t.c),ν ξ,ν M.t.g] (by simp) (by unfold TM.put;rw[k.out,m.out];rfl) ⟨D,D,D,D,D⟩ j.out
  ·exact Bt.sets H.out.nd [J Y M.t.r,J Y (ir ξ M.t.r M.t.c),ν ξ,ν M.t.g] 41 _ (Bt.kept (Bt.refl F W) H.out.big d)
 ·go_enter func187,ntmps187
  go_wp2_with (go_at_call 245;refine(zjG _ _ _ _ _ _).mono ?_;rintro e w1 ⟨rfl,d⟩;obtain⟨k1,f1⟩:=cj d;have z2:F.g<w1.heap.size:=vO i d (by simp))
  go_end0;refine⟨D,?_,?_⟩
  ·exact((H.out.kept d).puts (M':={ M with t:=⟨M.t.r,ir ξ M.t.r M.t.c,ξ,M.t.g⟩ }) (tk':=tk) 41 [J Y M.t.r,J Y (ir ξ M.t.r M.t.c),ν ξ,ν M.t.g] (by simp) D ⟨D,D,D,D,D⟩ { H.out.fit with main:=H.out.fit.main,tr:=H.out.fit.tr,tc:=ztG (l:=ξ) (a:=M.t.r) (b:=M.t.c) H.out.fit.tr H.out.fit.tc }).put 44 (ν ξ) (by omega) (by unfold TM.put;rw[k.out,m.out];rfl) ⟨D,D,D,D,D⟩ j.out
  ·exact Bt.set H.out.nd (Bt.sets H.out.nd [J Y M.t.r,J Y (ir ξ M.t.r M.t.c),ν ξ,ν M.t.g] 41 _ (Bt.kept (Bt.refl F W) H.out.big d)) 44 _
 ·go_enter func187,ntmps187
  go_wp2_with (go_at_call 245;refine(zjG _ _ _ _ _ _).mono ?_;rintro e w1 ⟨rfl,d⟩;obtain⟨k1,f1⟩:=cj d;have z2:F.g<w1.heap.size:=vO i d (by simp))
  go_end0;refine⟨D,?_,?_⟩
  ·exact(H.out.kept d).puts (M':={ M with t:=M.t.put n }) (tk':=tk) 41 [J Y M.t.r,J Y (ir Γ M.t.r M.t.c),ν Γ,ν M.t.g] (by simp) (by unfold TM.put;rw[k.out,m.out];rfl) ⟨D,D,D,D,D⟩ j.out
  ·exact Bt.sets H.out.nd [J Y M.t.r,J Y (ir Γ M.t.r M.t.c),ν Γ,ν M.t.g] 41 _ (Bt.kept (Bt.refl F W) H.out.big d)
 ·go_enter func187,ntmps187
  go_wp2_with (go_at_call 245;refine(zjG _ _ _ _ _ _).mono ?_;rintro e w1 ⟨rfl,d⟩;obtain⟨k1,f1⟩:=cj d;have z2:F.g<w1.heap.size:=vO i d (by simp))
  go_end0;refine⟨D,?_,?_⟩
  ·exact((H.out.kept d).puts (M':={ M with t:=⟨M.t.r,ir Γ M.t.r M.t.c,Γ,M.t.g⟩ }) (tk':=tk) 41 [J Y M.t.r,J Y (ir Γ M.t.r M.t.c),ν Γ,ν M.t.g] (by simp) D ⟨D,D,D,D,D⟩ { H.out.fit with main:=H.out.fit.main,tr:=H.out.fit.tr,tc:=ztG (l:=Γ) (a:=M.t.r) (b:=M.t.c) H.out.fit.tr H.out.fit.tc }).put 44 (ν ξ) (by omega) (by unfold TM.put;rw[k.out,m.out];rfl) ⟨D,D,D,D,D⟩ j.out
  ·exact Bt.set H.out.nd (Bt.sets H.out.nd [J Y M.t.r,J Y (ir Γ M.t.r M.t.c),ν Γ,ν M.t.g] 41 _ (Bt.kept (Bt.refl F W) H.out.big d)) 44 _
end
def Pb(F:Gx)(W:u)(b:Nat):Prop:=b<W.heap.size/\W.cell? ⟨b,0,G⟩=A (pt F.g 0) /\ ¬ F.T b
section
variable {F : Gx} {W : u} {M : Mach} {tk : Tk} {gb mb : Nat}
theorem Pb.kept{w1:u}{b:Nat}(h:Pb F W b)(hb:Below W.heap.size W w1):Pb F w1 b:=⟨Θ h.1 hb.size,(hb.cell (p:=⟨b,0,G⟩) h.1).trans h.2.1,h.2.2⟩
theorem Pb.moved{w1:u}{b:Nat}(h:Pb F W b)(hb:Gt F W w1):Pb F w1 b:=⟨Θ h.1 (Mv.size hb),(Mv.cell hb h.1 h.2.2 0).trans h.2.1,h.2.2⟩
structure GdC (F : Gx) (W : u) (M : Mach) (tk : Tk) (b : Nat) (p : Pd) (wx : u) : Prop where
 bd:Gd F wx M tk
 bt:Gt F W wx
 bx:Bx wx b [J au p.d,ν p.l,J au p.s]
 ne:b≠F.g
theorem GdC.mkA{w1:u}{p:Pd}(h:Gd F W M tk)(hB:Below W.heap.size W w1):GdC F W M tk w1.heap.size p (w1.alloc (.cells #[J au p.d,ν p.l,J au p.s] 28)):=by
 have a:=Θ h.bx.z hB.size;exact⟨(h.kept hB).over _,Gt.kept (Gt.refl F W) h.big (stA hB _),Bx.new w1 [J au p.d,ν p.l,J au p.s] _ D,by omega⟩
theorem GdC.all{a:u}{b:Nat}{p:Pd}(h:GdC F W M tk b p a):a.cell? ⟨b,0,G⟩=A (J au p.d)/\a.cell? ⟨b,1,G⟩=A (ν p.l)/\a.cell? ⟨b,2,G⟩=A (J au p.s):=⟨h.bx.at 0 _ rfl,h.bx.at 1 _ rfl,h.bx.at 2 _ rfl⟩
theorem Gm.getN(h:Gd F W M tk)(c:Pb F W gb)(a:Int)(hc:(0<=a/\a<32768) \/ (32768<=a/\a<49152) \/ (49152<=a/\a<53248) \/ (57344<=a/\a<=65535)):Δ ω 87 #[J Y a,pt gb 0,pt mb 0] W λe w'=>e=μ (J au (M.lookM a))/\Gd F w' M tk/\Gt F W w':=by
 obtain⟨d,e1,_⟩:=c;have hp:dP a=ξ:=by unfold dP;exact aG (by omega)
 have b:=hid (zd3 h a (by omega));rw[hp] at b;have H:=hid h;clear h hp;simp only[cD,fj] at b;rcases hc with⟨h1,h2⟩|⟨h1,h2⟩|⟨h1,h2⟩|⟨h1,h2⟩
 all_goals
  go_enter func87,ntmps87;go_wp2_with (first
   | (go_at_call 88;(first|refine(Gm.reg0 a _ h1 h2).mono ?_|refine(Gm.reg1 a _ h1 h2).mono ?_|refine(Gm.reg2 a _ h1 h2).mono ?_|refine(Gm.reg4 a _ h1 h2).mono ?_);rintro e w1 ⟨rfl,rfl⟩)
   | (go_at_call 89;refine b.out.mono ?_;rintro e w1 ⟨rfl,rfl⟩))
  go_ret;exact⟨D,H.out,Gt.refl _ _⟩
theorem Gm.getQ(h:Gd F W M tk)(d:Pb F W mb)(a:Int)(h1:53248<=a)(h2:a<=57343)(k:Nat)(q:Int)(f:bl a 32=q)(hc:(k=6/\q=6) \/ (k=7/\q=7) \/ (k=17/\q=17) \/ (k=8/\q=8) \/ (k=4/\q=4) \/ (k=16/\q=16)):Δ ω 87 #[J Y a,pt gb 0,pt mb 0] W λe w'=>e=μ (J au (M.portM k).1)/\Gd F w' (M.portM k).2 tk/\Gt F W w':=by
 obtain⟨i,e2,_⟩:=d;have c1:=h.at 61 (J Q M.b.l) D;have c2:=h.at 62 (J Q M.b.a) D;have c3:=h.at 63 (ν M.b.g) D;have c4:=h.at 43 (ν M.t.on) D;have c5:=h.at 44 (ν M.t.g) D;have j:=h.at 67 (ν M.granted) D;have m:=h.at 68 (ν M.held) D;have n:=h.at 70 (J au M.m1) D;have b0:=h.fit.b.l0;have b1:=h.fit.b.l1;have b2:=h.fit.b.a0;have b3:=h.fit.b.a1;have o:=h.bx.z;have H:=hid h;clear h;rcases hc with⟨rfl,rfl⟩|⟨rfl,rfl⟩|⟨rfl,rfl⟩|⟨rfl,rfl⟩|⟨rfl,rfl⟩|⟨rfl,rfl⟩
 all_goals
  go_enter func87,ntmps87;go_wp2_with (first|(go_at_call 88;refine(Gm.reg3 a _ h1 h2).mono ?_;rintro e w1 ⟨rfl,rfl⟩)|(go_at_call 91;refine(zgn _ _ _).mono ?_;rintro e w2 ⟨rfl,c⟩))
  first
  | (go_ret;first|exact⟨D,H.out,Gt.refl _ _⟩|exact⟨D,H.out.kept c,Gt.kept (Gt.refl F W) H.out.big c⟩)
  | (go_region_with (go_at_call 91;refine(zgn _ _ _).mono ?_;rintro e w2 ⟨rfl,c⟩)
     all_goals
      go_wp2;go_ret;exact⟨D,H.out.kept (bw (aR W).drew c),Gt.kept (Gt.refl F W) H.out.big (bw (aR W).drew c)⟩)
theorem Gm.getP0(h:Gd F W M tk)(m:Pb F W mb)(a:Int)(h1:53248<=a)(h2:a<=57343)(q:bl a 32=0):Δ ω 87 #[J Y a,pt gb 0,pt mb 0] W λe w'=>e=μ (J au (M.portM 0).1)/\Gd F w' (M.portM 0).2 tk/\Gt F W w':=by
 obtain⟨k,e2,_⟩:=m;have c0:=h.at 35 (J au M.p0.d) D;have c1:=h.at 36 (ν M.p0.l) D;have c2:=h.at 37 (J au M.p0.s) D;have hp:=h.fit.p0;have i:Hid (Pb F W mb):=hid ⟨k,e2,by assumption⟩;have n:=h.bx.z;have H:=hid h;clear h;go_enter func87,ntmps87;go_upto_region 5 with(go_at_call 88;refine(Gm.reg3 a _ h1 h2).mono ?_;rintro e w1 ⟨rfl,rfl⟩)
 go_cut [5,6] (λv3 v4 o=>v3=J au M.p0.rd /\ ∃ b,v4=pt b 0/\GdC F W M tk b M.p0.next o)
 case first =>
  go_wp2_with (go_at_call 90;refine(zsL _ _ _ _ hp.d hp.s).mono ?_;rintro e w2 ⟨rfl,j⟩)
  go_meet;exact⟨D,_,D,GdC.mkA H.out j⟩
 case rest =>
  obtain⟨rfl,b,rfl,c⟩:=hcut;obtain⟨r,d1,d2⟩:=c.all;have c0:=c.bd.at 35 (J au M.p0.d) D;have c1:=c.bd.at 36 (ν M.p0.l) D;have c2:=c.bd.at 37 (J au M.p0.s) D;have f0:=c.bd.bx.f;have n:=c.bd.bx.z;have p:=c.bx.z;obtain⟨k,e2,_⟩:=i.out.moved c.bt;have g:=hid c;clear c;go_wp2;go_region_with fail
  all_goals go_wp2
  all_goals go_ret
  all_goals
   refine⟨D,?_,?_⟩
   ·exact g.out.bd.drew.puts (M':={ M with p0:=M.p0.next }) (tk':=tk) 35 [J au M.p0.next.d,ν M.p0.next.l,J au M.p0.next.s] (by simp) D ⟨D,D,D,D,D⟩ { g.out.bd.fit with main:=g.out.bd.fit.main,p0:=Pd.next_ok g.out.bd.fit.p0 }
   ·exact Gt.sets g.out.bd.nd [J au M.p0.next.d,ν M.p0.next.l,J au M.p0.next.s] 35 _ g.out.bt.drew
theorem Gm.getP1(h:Gd F W M tk)(m:Pb F W mb)(a:Int)(h1:53248<=a)(h2:a<=57343)(q:bl a 32=1):Δ ω 87 #[J Y a,pt gb 0,pt mb 0] W λe w'=>e=μ (J au (M.portM 1).1)/\Gd F w' (M.portM 1).2 tk/\Gt F W w':=by
 obtain⟨k,e2,_⟩:=m;have c0:=h.at 38 (J au M.p1.d) D;have c1:=h.at 39 (ν M.p1.l) D;have c2:=h.at 40 (J au M.p1.s) D;have hp:=h.fit.p1;have i:Hid (Pb F W mb):=hid ⟨k,e2,by assumption⟩;have n:=h.bx.z;have H:=hid h;clear h;go_enter func87,ntmps87;go_upto_region 9 with(go_at_call 88;refine(Gm.reg3 a _ h1 h2).mono ?_;rintro e w1 ⟨rfl,rfl⟩)
 go_cut [7,8] (λv3 v4 o=>v3=J au M.p1.rd /\ ∃ b,v4=pt b 0/\GdC F W M tk b M.p1.next o)
 case first =>
  go_wp2_with (go_at_call 90;refine(zsL _ _ _ _ hp.d hp.s).mono ?_;rintro e w2 ⟨rfl,j⟩)
  go_meet;exact⟨D,_,D,GdC.mkA H.out j⟩
 case rest =>
  obtain⟨rfl,b,rfl,c⟩:=hcut;obtain⟨r,d1,d2⟩:=c.all;have c0:=c.bd.at 38 (J au M.p1.d) D;have c1:=c.bd.at 39 (ν M.p1.l) D;have c2:=c.bd.at 40 (J au M.p1.s) D;have f0:=c.bd.bx.f;have n:=c.bd.bx.z;have p:=c.bx.z;obtain⟨k,e2,_⟩:=i.out.moved c.bt;have g:=hid c;clear c;go_wp2;go_region_with fail
  all_goals go_wp2
  all_goals go_ret
  all_goals
   refine⟨D,?_,?_⟩
   ·exact g.out.bd.drew.puts (M':={ M with p1:=M.p1.next }) (tk':=tk) 38 [J au M.p1.next.d,ν M.p1.next.l,J au M.p1.next.s] (by simp) D ⟨D,D,D,D,D⟩ { g.out.bd.fit with main:=g.out.bd.fit.main,p1:=Pd.next_ok g.out.bd.fit.p1 }
   ·exact Gt.sets g.out.bd.nd [J au M.p1.next.d,ν M.p1.next.l,J au M.p1.next.s] 38 _ g.out.bt.drew
theorem Gm.getPd(h:Gd F W M tk)(d:Pb F W mb)(a:Int)(h1:53248<=a)(h2:a<=57343)(k:Int)(f:bl a 32=k)(k0:0<=k)(k1:k<=31)(g:(k == 0)=ξ)(i:(k == 1)=ξ)(j:(k == 4)=ξ)(l:(k == 6)=ξ)(m:(k == 7)=ξ)(n:(k == 8)=ξ)(b:(k == 16)=ξ)(c:(k == 17)=ξ):Δ ω 87 #[J Y a,pt gb 0,pt mb 0] W λe w'=>e=μ (J au 255)/\Gd F w' M tk/\Gt F W w':=by
 have H:=hid h;clear h;go_enter func87,ntmps87;go_wp2_with (go_at_call 88;refine(Gm.reg3 a _ h1 h2).mono ?_;rintro e w1 ⟨rfl,rfl⟩)
 go_ret;exact⟨D,H.out,Gt.refl _ _⟩
theorem Gm.getM(h:Gd F W M tk)(f:Pb F W gb)(c:Pb F W mb)(a:Int)(l:0<=a/\a<=65535):Δ ω 87 #[J Y a,pt gb 0,pt mb 0] W λe w'=>e=μ (J au (M.rdM a).1)/\Gd F w' (M.rdM a).2 tk/\Gt F W w':=by
 unfold Mach.rdM;by_cases hp:dP a=Γ
 ·rw[am hp]
  have b:53248<=a/\a<=57343:=by unfold dP at hp;simpa using hp
  have g:bl a 32=a%32:=ak (by omega);have hb:portNo a<32:=by unfold portNo;omega
  have d:bl a 32=((portNo a:Nat):Int):=by rw[g];unfold portNo;omega
  generalize portNo a=k at *;by_cases i:k=0
  ·subst i;exact Gm.getP0 h c a b.1 b.2 d
  by_cases e1:k=1
  ·subst e1;exact Gm.getP1 h c a b.1 b.2 d
  by_cases eq:k=6 \/ k=7 \/ k=17 \/ k=8 \/ k=4 \/ k=16
  ·exact Gm.getQ h c a b.1 b.2 k _ d (by omega)
  have j:M.portM k=(255,M):=by
   unfold Mach.portM;split <;> first|rfl|(exfalso;omega)
  rw[j];exact Gm.getPd h c a b.1 b.2 k d (by omega) (by omega) (by simp;omega) (by simp;omega) (by simp;omega) (by simp;omega) (by simp;omega) (by simp;omega) (by simp;omega) (by simp;omega)
 ·rw[ae hp]
  have b:¬ (53248<=a/\a<=57343):=by unfold dP at hp;simpa using hp
  exact Gm.getN h f a (by omega)
end
structure Pu (F : Gx) (W : u) (mb hb lb gb : Nat) : Prop where
 m:Pb F W mb
 g:Pb F W gb
 h:hb<W.heap.size/\W.cell? ⟨hb,0,G⟩=A (fh 92 #[]) /\ ¬ F.T hb
 l:lb<W.heap.size/\W.cell? ⟨lb,0,G⟩=A (fh 93 #[]) /\ ¬ F.T lb
section
variable {F : Gx} {W : u} {M : Mach} {tk : Tk} {mb hb lb gb : Nat}
theorem Pu.moved{w1:u}(h:Pu F W mb hb lb gb)(a:Gt F W w1):Pu F w1 mb hb lb gb :=
 ⟨h.m.moved a,h.g.moved a,⟨Θ h.h.1 (Mv.size a),(Mv.cell a h.h.1 h.h.2.2 0).trans h.h.2.1,h.h.2.2⟩,⟨Θ h.l.1 (Mv.size a),(Mv.cell a h.l.1 h.l.2.2 0).trans h.l.2.1,h.l.2.2⟩⟩
theorem Pb.ne{b:Nat}(h:Pb F W b):b≠F.g:=λe=>h.2.2 (Or.inl e)
theorem Gm.high(x n:Int)(w:u)(a:je x)(d:0<=n/\n<=255):Δ ω 92 #[J Y x,J au n] w λe w'=>e=μ (J Y (sW x n))/\w=w':=by
 obtain⟨b,h1⟩:=a;have f:bl x 256=x%256:=ak b;have c:sW x n=x%256+n*256:=by unfold sW;omega
 rw[c];go_enter func92,ntmps92;go_wp2;go_ret;exact⟨D,D⟩
theorem Gm.low(x n:Int)(w:u)(a:je x)(d:0<=n/\n<=255):Δ ω 93 #[J Y x,J au n] w λe w'=>e=μ (J Y (tI x n))/\w=w':=by
 obtain⟨b,h1⟩:=a;have f:Int.tdiv x 256=x/256:=aF b;have c:tI x n=x/256*256+n:=D;rw[c];go_enter func93,ntmps93;go_wp2;go_ret;exact⟨D,D⟩
end
section
variable {F : Gx} {W : u} {M : Mach} {tk : Tk} {mb hb lb gb : Nat}
theorem Gm.putP0(h:Gd F W M tk)(hm:Pu F W mb hb lb gb)(a n:Int)(h1:53248<=a)(h2:a<=57343)(L:0<=n/\n<=255)(hk:bl a 32=0):Δ ω 94 #[J Y a,J au n,pt mb 0,pt hb 0,pt lb 0,pt gb 0] W λe w'=>e=μ (Ψ #[])/\Gd F w' (M.putM 0 n) tk/\Gt F W w':=by
 obtain⟨N,e1,x1⟩:=hm.m;have c0:=h.at 35 (J au M.p0.d) D;have c1:=h.at 36 (ν M.p0.l) D;have c2:=h.at 37 (J au M.p0.s) D;have c3:=h.at 38 (J au M.p1.d) D;have c4:=h.at 39 (ν M.p1.l) D;have c5:=h.at 40 (J au M.p1.s) D;have hg:=h.bx.z;have y:Hid (mb≠F.g):=hid hm.m.ne;have H:=hid h;clear h hm;go_enter func94,ntmps94;go_wp2_with (go_at_call 88;refine(Gm.reg3 a _ h1 h2).mono ?_;rintro e w1 ⟨rfl,rfl⟩)
 refine wp_region_held_drew (S:=λw'=>w'.cell? ⟨mb,0,G⟩=A (pt F.g 0)) (by kernel_rfl) (e1) ?_;intro i;refine bH 0 i ?_;refine bH 1 i ?_;refine bH 2 i ?_;refine bH 3 i ?_;refine bH 4 i ?_;refine bH 5 i ?_;refine bH 7 i ?_;refine bH 9 i ?_;refine bH 10 i ?_;refine bH 11 i ?_;refine bH 12 i ?_;refine bH 14 i ?_;refine bH 16 i ?_;refine bH 17 i ?_;refine bH 20 i ?_;refine bH 21 i ?_;refine wpAnyH_ready (rs:=[6,13]) (by kernel_rfl) (by simp) ?_;refine AllReadyH.cons (o:=⟨A 48,_,_,_,_,G⟩) D (λK c=>?_) (AllReadyH.cons (o:=⟨A 55,_,_,_,_,G⟩) D (λK c=>?_) AllReadyH.nil)
 ·go_simp
  refine gL c i (λ_=>?_);clear c K;refine wpAnyH_ready (rs:=[8,13]) (by kernel_rfl) (by simp) ?_;refine AllReadyH.cons (o:=⟨A 50,_,_,_,_,G⟩) D (λK c=>?_) (AllReadyH.cons (o:=⟨A 55,_,_,_,_,G⟩) D (λK c=>?_) AllReadyH.nil)
  ·go_simp
   go_at_call 95
   refine(zd _ _ _ _ _ L).mono ?_;rintro e w2 ⟨rfl,k⟩;have j:=hid (H.out.drew.kept k);have K1:Hid (w2.cell? ⟨F.g,38,G⟩=A (J au M.p1.d)/\w2.cell? ⟨F.g,39,G⟩=A (ν M.p1.l)/\w2.cell? ⟨F.g,40,G⟩=A (J au M.p1.s)):=hid ⟨j.out.at 38 _ D,j.out.at 39 _ D,j.out.at 40 _ D⟩;have B:=hid (bw (aR W).drew k);have P:=j.out.bx.z;try go_wp2_with fail
   have q:=(k.cell (p:=⟨mb,0,G⟩) N).trans i;refine gL c (q) (λ_=>?_);clear c K;clear i;have i:=q;clear q;refine gy 13 (λK c=>?_);obtain⟨c3,c4,c5⟩:=K1.out;go_simp;refine gL c (i) (λ_=>?_);clear c K;refine gy 15 (λK c=>?_);go_simp;go_at_call 95
   refine(zd _ _ _ _ _ L).mono ?_;rintro e x ⟨rfl,r⟩;have b:=hid (j.out.kept r);have I:=hid (bw B.out r);try go_wp2_with fail
   have t:=(r.cell (p:=⟨mb,0,G⟩) (Θ N B.out.size)).trans i;refine gL c (t) (λ_=>?_);clear c K;clear i;have i:=t;clear t;have R:=b.out.at 35 _ D;have T:=b.out.at 36 _ D;have U:=b.out.at 37 _ D;have V:=b.out.at 38 _ D;have X:=b.out.at 39 _ D;have Z:=b.out.at 40 _ D;have gf:=b.out.bx.f;have gz:=b.out.bx.z;refine bH 18 i ?_;refine gy 19 (λK c=>?_);go_simp;refine gL c ((Φ (w:=x) (ji y.out [J au M.p0.d,ν (et n),J au (ir (et n) M.p0.d M.p0.s)] 35 x)).trans i) (λ_=>?_);clear c K;have E:(x.setCells F.g 35 [J au M.p0.d,ν (et n),J au (ir (et n) M.p0.d M.p0.s)]).cell? ⟨mb,0,G⟩=A (pt F.g 0):=(Φ (w:=x) (ji y.out [J au M.p0.d,ν (et n),J au (ir (et n) M.p0.d M.p0.s)] 35 x)).trans i;refine bH 22 E ?_;refine gy 23 (λK c=>?_);go_simp;refine gL c ((Φ (w:=x.setCells F.g 35 [J au M.p0.d,ν (et n),J au (ir (et n) M.p0.d M.p0.s)]) (ji y.out [J au M.p1.d,ν (et n),J au (ir (et n) M.p1.d M.p1.s)] 38 _)).trans E) (λ_=>?_)
   clear c K;refine wpAnyH_done (by kernel_rfl) ?_ _;go_simp;go_wp2;go_end0;have v:=b.out.puts (M':={ M with p0:=M.p0.wr n }) (tk':=tk) 35 [J au M.p0.d,ν (et n),J au (ir (et n) M.p0.d M.p0.s)] (by simp) D ⟨D,D,D,D,D⟩ { b.out.fit with main:=b.out.fit.main,p0:=Pd.wr_ok b.out.fit.p0 n };exact⟨D,v.puts (M':=M.putM 0 n) (tk':=tk) 38 [J au M.p1.d,ν (et n),J au (ir (et n) M.p1.d M.p1.s)] (by simp) D ⟨D,D,D,D,D⟩ (show Mach.fit { M with p0:=M.p0.wr n,p1:=M.p1.wr n } from { v.fit with main:=v.fit.main,p1:=Pd.wr_ok b.out.fit.p1 n }),Gt.sets H.out.nd [J au M.p1.d,ν (et n),J au (ir (et n) M.p1.d M.p1.s)] 38 _ (Gt.sets H.out.nd [J au M.p0.d,ν (et n),J au (ir (et n) M.p0.d M.p0.s)] 35 _ (Gt.under H.out I.out))⟩
  ·go_simp
   refine gL c i (λ_=>?_);clear c K;refine gy 8 (λK c=>?_);go_simp;go_at_call 95
   refine(zd _ _ _ _ _ L).mono ?_;rintro e w2 ⟨rfl,k⟩;have j:=hid (H.out.drew.kept k);have K1:Hid (w2.cell? ⟨F.g,38,G⟩=A (J au M.p1.d)/\w2.cell? ⟨F.g,39,G⟩=A (ν M.p1.l)/\w2.cell? ⟨F.g,40,G⟩=A (J au M.p1.s)):=hid ⟨j.out.at 38 _ D,j.out.at 39 _ D,j.out.at 40 _ D⟩;have B:=hid (bw (aR W).drew k);have P:=j.out.bx.z;try go_wp2_with fail
   have q:=(k.cell (p:=⟨mb,0,G⟩) N).trans i;refine gL c (q) (λ_=>?_);clear c K;clear i;have i:=q;clear q;refine gy 15 (λK c=>?_);go_simp;go_at_call 95
   refine(zd _ _ _ _ _ L).mono ?_;rintro e x ⟨rfl,r⟩;have b:=hid (j.out.kept r);have I:=hid (bw B.out r);try go_wp2_with fail
   have t:=(r.cell (p:=⟨mb,0,G⟩) (Θ N B.out.size)).trans i;refine gL c (t) (λ_=>?_);clear c K;clear i;have i:=t;clear t;have R:=b.out.at 35 _ D;have T:=b.out.at 36 _ D;have U:=b.out.at 37 _ D;have V:=b.out.at 38 _ D;have X:=b.out.at 39 _ D;have Z:=b.out.at 40 _ D;have gf:=b.out.bx.f;have gz:=b.out.bx.z;refine bH 18 i ?_;refine gy 19 (λK c=>?_);go_simp;refine gL c ((Φ (w:=x) (ji y.out [J au M.p0.d,ν (et n),J au (ir (et n) M.p0.d M.p0.s)] 35 x)).trans i) (λ_=>?_);clear c K;have E:(x.setCells F.g 35 [J au M.p0.d,ν (et n),J au (ir (et n) M.p0.d M.p0.s)]).cell? ⟨mb,0,G⟩=A (pt F.g 0):=(Φ (w:=x) (ji y.out [J au M.p0.d,ν (et n),J au (ir (et n) M.p0.d M.p0.s)] 35 x)).trans i;refine bH 22 E ?_;refine gy 23 (λK c=>?_);go_simp;refine gL c ((Φ (w:=x.setCells F.g 35 [J au M.p0.d,ν (et n),J au (ir (et n) M.p0.d M.p0.s)]) (ji y.out [J au M.p1.d,ν (et n),J au (ir (et n) M.p1.d M.p1.s)] 38 _)).trans E) (λ_=>?_)
   clear c K;refine wpAnyH_done (by kernel_rfl) ?_ _;go_simp;go_wp2;go_end0;have v:=b.out.puts (M':={ M with p0:=M.p0.wr n }) (tk':=tk) 35 [J au M.p0.d,ν (et n),J au (ir (et n) M.p0.d M.p0.s)] (by simp) D ⟨D,D,D,D,D⟩ { b.out.fit with main:=b.out.fit.main,p0:=Pd.wr_ok b.out.fit.p0 n };exact⟨D,v.puts (M':=M.putM 0 n) (tk':=tk) 38 [J au M.p1.d,ν (et n),J au (ir (et n) M.p1.d M.p1.s)] (by simp) D ⟨D,D,D,D,D⟩ (show Mach.fit { M with p0:=M.p0.wr n,p1:=M.p1.wr n } from { v.fit with main:=v.fit.main,p1:=Pd.wr_ok b.out.fit.p1 n }),Gt.sets H.out.nd [J au M.p1.d,ν (et n),J au (ir (et n) M.p1.d M.p1.s)] 38 _ (Gt.sets H.out.nd [J au M.p0.d,ν (et n),J au (ir (et n) M.p0.d M.p0.s)] 35 _ (Gt.under H.out I.out))⟩
 ·go_simp
  refine gL c i (λ_=>?_);clear c K;refine gy 6 (λK c=>?_);go_simp;refine gL c (i) (λ_=>?_);clear c K;refine gy 8 (λK c=>?_);go_simp;go_at_call 95
  refine(zd _ _ _ _ _ L).mono ?_;rintro e w2 ⟨rfl,k⟩;have j:=hid (H.out.drew.kept k);have K1:Hid (w2.cell? ⟨F.g,38,G⟩=A (J au M.p1.d)/\w2.cell? ⟨F.g,39,G⟩=A (ν M.p1.l)/\w2.cell? ⟨F.g,40,G⟩=A (J au M.p1.s)):=hid ⟨j.out.at 38 _ D,j.out.at 39 _ D,j.out.at 40 _ D⟩;have B:=hid (bw (aR W).drew k);have P:=j.out.bx.z;try go_wp2_with fail
  have q:=(k.cell (p:=⟨mb,0,G⟩) N).trans i;refine gL c (q) (λ_=>?_);clear c K;clear i;have i:=q;clear q;refine gy 15 (λK c=>?_);go_simp;go_at_call 95
  refine(zd _ _ _ _ _ L).mono ?_;rintro e x ⟨rfl,r⟩;have b:=hid (j.out.kept r);have I:=hid (bw B.out r);try go_wp2_with fail
  have t:=(r.cell (p:=⟨mb,0,G⟩) (Θ N B.out.size)).trans i;refine gL c (t) (λ_=>?_);clear c K;clear i;have i:=t;clear t;have R:=b.out.at 35 _ D;have T:=b.out.at 36 _ D;have U:=b.out.at 37 _ D;have V:=b.out.at 38 _ D;have X:=b.out.at 39 _ D;have Z:=b.out.at 40 _ D;have gf:=b.out.bx.f;have gz:=b.out.bx.z;refine bH 18 i ?_;refine gy 19 (λK c=>?_);go_simp;refine gL c ((Φ (w:=x) (ji y.out [J au M.p0.d,ν (et n),J au (ir (et n) M.p0.d M.p0.s)] 35 x)).trans i) (λ_=>?_);clear c K;have E:(x.setCells F.g 35 [J au M.p0.d,ν (et n),J au (ir (et n) M.p0.d M.p0.s)]).cell? ⟨mb,0,G⟩=A (pt F.g 0):=(Φ (w:=x) (ji y.out [J au M.p0.d,ν (et n),J au (ir (et n) M.p0.d M.p0.s)] 35 x)).trans i;refine bH 22 E ?_;refine gy 23 (λK c=>?_);go_simp;refine gL c ((Φ (w:=x.setCells F.g 35 [J au M.p0.d,ν (et n),J au (ir (et n) M.p0.d M.p0.s)]) (ji y.out [J au M.p1.d,ν (et n),J au (ir (et n) M.p1.d M.p1.s)] 38 _)).trans E) (λ_=>?_)
  clear c K;refine wpAnyH_done (by kernel_rfl) ?_ _;go_simp;go_wp2;go_end0;have v:=b.out.puts (M':={ M with p0:=M.p0.wr n }) (tk':=tk) 35 [J au M.p0.d,ν (et n),J au (ir (et n) M.p0.d M.p0.s)] (by simp) D ⟨D,D,D,D,D⟩ { b.out.fit with main:=b.out.fit.main,p0:=Pd.wr_ok b.out.fit.p0 n };exact⟨D,v.puts (M':=M.putM 0 n) (tk':=tk) 38 [J au M.p1.d,ν (et n),J au (ir (et n) M.p1.d M.p1.s)] (by simp) D ⟨D,D,D,D,D⟩ (show Mach.fit { M with p0:=M.p0.wr n,p1:=M.p1.wr n } from { v.fit with main:=v.fit.main,p1:=Pd.wr_ok b.out.fit.p1 n }),Gt.sets H.out.nd [J au M.p1.d,ν (et n),J au (ir (et n) M.p1.d M.p1.s)] 38 _ (Gt.sets H.out.nd [J au M.p0.d,ν (et n),J au (ir (et n) M.p0.d M.p0.s)] 35 _ (Gt.under H.out I.out))⟩
end
section
variable {F : Gx} {W : u} {M : Mach} {tk : Tk} {mb hb lb gb : Nat}
theorem zub(M:Mach)(c:Int):(if dP c then 255 else M.lookM c)=M.lookM c:=by
 by_cases hp:dP c=Γ
 ·rw[am hp]
  have a:53248<=c/\c<=57343:=by unfold dP at hp;simpa using hp
  unfold Mach.lookM;rw[ae (by omega),ae (by omega),ae (by omega)]
 ·rw[ae hp]
theorem Gm.putP14(h:Gd F W M tk)(I:Pu F W mb hb lb gb)(a n:Int)(h1:53248<=a)(h2:a<=57343)(hn:0<=n/\n<=255)(hk:bl a 32=14)(htk:0<=tk.n/\tk.n<=1000000000000):Δ ω 94 #[J Y a,J au n,pt mb 0,pt hb 0,pt lb 0,pt gb 0] W λe w'=>e=μ (Ψ #[])/\Gd F w' (M.putM 14 n) (tk.add (2*n))/\Gt F W w':=by
 obtain⟨s,o,_,_⟩:=h.viV;have HC:=hid o;obtain⟨N,rfl⟩:=aA hn.1;have hN:N<=255:=by omega
 have H:=hid h;have HM:=hid I;have hfr:=h.fit.fr;have c:=h.fit.to;have q:Hid (mb≠F.vi/\F.g≠F.vi):=hid ⟨λe=>I.m.2.2 (Or.inr (Or.inr (Or.inr e))),h.nd.d.2.2.1⟩;clear h o I;go_enter func94,ntmps94;go_wp2_with (go_at_call 88;refine(Gm.reg3 a _ h1 h2).mono ?_;rintro e w1 ⟨rfl,rfl⟩)
 go_loopw [8] (λi wr=>∃ k:Nat,k<=N/\i=J Q k/\Gd F wr (M.xfer k) tk/\Gt F W wr) (λi _=>N-(intOf i).toNat)
 case atStart=>exact⟨0,by omega,D,H.out,Gt.refl _ _⟩
 case round =>
  obtain⟨k,hk2,rfl,hB,t⟩:=hrel;have l:=hid (HM.out.moved t);have U:=l.out.m.2.1;have yM:=l.out.m.1;have eG:=l.out.g.2.1;have yG:=l.out.g.1;by_cases hlt:k<N
  ·obtain⟨r1,r2,_,_,r5,_⟩:=zlz M k
   have r:=hid hB;have L:=hid t;have v:=hB.at 65 (J Y (M.xfer k).fr) D;have w:=hB.at 66 (J Y (M.xfer k).to) D;have P:wr.cell? ⟨F.g,34,G⟩=A (κ (A ⟨F.vi,0,G⟩) 256 s):=(hB.at 34 F.S.vi D).trans (by rw[HC.out]);rw[r1] at v;rw[r2] at w;have hg:=hB.bx.z;have HV:=hid (hB.viAt ((M.to+k)%65536%256) (by omega) (by omega));have V:(k:Int)<N:=by omega
   have y:=hid (zd3 r.out.drew ((M.fr+k)%65536) (by omega));rw[zub] at y;have B:=hid (r.out.drew.drew.putVideo ((M.to+k)%65536%256) ((M.xfer k).lookM ((M.fr+k)%65536)) (by omega) (by omega) (sD _ _));have R:=hid (Gt.setV r.out.nd (Mv.drew (Mv.drew L.out)) ((M.to+k)%65536%256).toNat (J au ((M.xfer k).lookM ((M.fr+k)%65536))));have hx0:=sD (M.xfer k) ((M.fr+k)%65536);have hw1:IntKind.u16.wrap (k:Int)=k:=by simp[dB,dC,cP] <;> omega
   have hw2:IntKind.u16.wrap (M.fr+k)=(M.fr+k)%65536:=by simp[dB,dC,cP] <;> omega
   have hw3:IntKind.i64.wrap (M.to+k)=M.to+k:=by rw[aH];have:=c.1;have:=c.2;omega
   have hw4:bl (M.to+k) 256=(M.to+k)%65536%256:=by rw[ak (by have:=c.1;omega)];omega
   have hw5:IntKind.i64.wrap ((M.to+k)%65536%256)=(M.to+k)%65536%256:=by rw[aH];omega
   have hw6:IntKind.i64.wrap M.to=M.to:=by rw[aH];have:=c.1;have:=c.2;omega
   generalize X:(M.xfer k).lookM ((M.fr+k)%65536)=x at *;have E:=hid X;have hj0:0<=(M.to+k)%65536%256:=by omega
   have hj1:(M.to+k)%65536%256<256:=by omega
   generalize Z:(M.to+k)%65536%256=j at *;have HJ:=hid Z;clear X hB t Z;go_wp2;refine wp_region_held_drew (S:=λw'=>w'.cell? ⟨mb,0,G⟩=A (pt F.g 0)/\w'.cell? ⟨gb,0,G⟩=A (pt F.g 0)/\w'.cell? ⟨F.g,65,G⟩=A (J Y M.fr)) (by kernel_rfl) (⟨U,eG,v⟩) ?_;intro b;refine bH 0 b ?_;refine bH 1 b ?_;refine bH 2 b ?_;refine bH 3 b ?_;refine bH 4 b ?_;refine bH 5 b ?_;refine bH 6 b ?_;refine bH 7 b ?_;refine gy 8 (λK p=>?_);go_simp;go_at_call 89
   refine y.out.mono ?_;rintro e w2 ⟨rfl,rfl⟩;try go_wp2_with fail
   refine gL p (b) (λ_=>?_);clear p K;refine bH 9 b ?_;refine wpAnyH_done (by kernel_rfl) ?_ _;go_simp;have T:=U;obtain⟨v1,v2,v3⟩:=HV.out;go_wp2;refine wp_region_held_drew (S:=λw'=>w'.cell? ⟨mb,0,G⟩=A (pt F.g 0)/\w'.cell? ⟨F.g,34,G⟩=A (κ (A ⟨F.vi,0,G⟩) 256 s)/\w'.cell? ⟨F.g,66,G⟩=A (J Y M.to)) (by kernel_rfl) (⟨T,P,w⟩) ?_;intro b;refine bH 0 b ?_;refine bH 1 b ?_;refine bH 2 b ?_;refine bH 3 b ?_;refine bH 4 b ?_;refine bH 5 b ?_;refine bH 6 b ?_;refine bH 7 b ?_;refine bH 8 b ?_;refine bH 9 b ?_;refine bH 10 b ?_;refine bH 11 b ?_;refine bH 12 b ?_;refine gy 13 (λK p=>?_);go_simp;refine gL p (b) (λ_=>?_);clear p K;refine gy 14 (λK p=>?_);go_simp;refine gL p (⟨(Φ (f8 q.out.1)).trans b.1,(Φ (f8 q.out.2)).trans b.2.1,(Φ (f8 q.out.2)).trans b.2.2⟩) (λ_=>?_);clear p K;refine wpAnyH_done (by kernel_rfl) ?_ _;try go_simp
   go_wp2
   go_roundw
   case rel =>
    refine⟨k+1,by omega,by go_num,?_,R.out⟩;have hp:=B.out;rw[<- E.out,<- HJ.out] at hp;rw[<- E.out,<- HJ.out];exact hp
   case measure=>simp[intOf];omega
  ·obtain rfl:k=N:=by omega
   have c1:=hB.at 76 (J Q tk.n) D;have f1:=hB.bx.f 76;have hg:=hB.bx.z;have r:=hid hB;have L:=hid t;have e0:M.putM 14 (k:Int)=M.xfer k:=by show M.xfer (k:Int).toNat=_;rw[bR]
   have E0:=hid e0;clear hB t e0;go_wp2;go_end0;rw[E0.out];exact⟨D,r.out.put 76 _ (by omega) D ⟨D,D,D,D,D⟩ r.out.fit,Gt.set r.out.nd L.out 76 _⟩
end
section
variable {F : Gx} {W : u} {M : Mach} {tk : Tk} {mb hb lb gb : Nat}
theorem Gm.putN0(h:Gd F W M tk)(a n:Int)(h1:0<=a)(h2:a<32768):Δ ω 94 #[J Y a,J au n,pt mb 0,pt hb 0,pt lb 0,pt gb 0] W λe w'=>e=μ (Ψ #[])/\Gd F w' M tk/\Gt F W w':=by
 have H:=hid h;clear h;go_enter func94,ntmps94;go_wp2_with (go_at_call 88;refine(Gm.reg0 a _ h1 h2).mono ?_;rintro e w1 ⟨rfl,rfl⟩)
 go_end0;exact⟨D,H.out,Gt.refl _ _⟩
theorem Gm.putN4(h:Gd F W M tk)(a n:Int)(h1:57344<=a)(h2:a<=65535):Δ ω 94 #[J Y a,J au n,pt mb 0,pt hb 0,pt lb 0,pt gb 0] W λe w'=>e=μ (Ψ #[])/\Gd F w' M tk/\Gt F W w':=by
 have H:=hid h;clear h;go_enter func94,ntmps94;go_wp2_with (go_at_call 88;refine(Gm.reg4 a _ h1 h2).mono ?_;rintro e w1 ⟨rfl,rfl⟩)
 go_end0;exact⟨D,H.out,Gt.refl _ _⟩
theorem Gm.putN1(h:Gd F W M tk)(c:Pb F W mb)(a n:Int)(h1:32768<=a)(h2:a<49152)(d:0<=n/\n<=255):Δ ω 94 #[J Y a,J au n,pt mb 0,pt hb 0,pt lb 0,pt gb 0] W λe w'=>e=μ (Ψ #[])/\Gd F w' { M with ram:=lF M.ram ((a-32768)%128) n } tk/\Gt F W w':=by
 obtain⟨j,e1,_⟩:=c;obtain⟨b,e,_,_⟩:=h.ramV;have f:W.cell? ⟨F.g,32,G⟩=A (κ (A ⟨F.ra,0,G⟩) 128 b):=(h.at 32 F.S.ra D).trans (by rw[e]);obtain⟨k,l,m⟩:=h.ramAt ((a-32768)%128) (by omega) (by omega);have i:bl (a-32768) 128=(a-32768)%128:=ak (by omega);have o:=h.bx.z;have H:=hid h;clear h e;go_enter func94,ntmps94;go_wp2_with (go_at_call 88;refine(Gm.reg1 a _ h1 h2).mono ?_;rintro e w1 ⟨rfl,rfl⟩)
 go_end0;exact⟨D,H.out.putRam _ n (by omega) (by omega) d,(Gt.refl _ _).setR H.out.nd _ _⟩
theorem Gm.putN2(h:Gd F W M tk)(c:Pb F W mb)(a n:Int)(h1:49152<=a)(h2:a<53248)(d:0<=n/\n<=255):Δ ω 94 #[J Y a,J au n,pt mb 0,pt hb 0,pt lb 0,pt gb 0] W λe w'=>e=μ (Ψ #[])/\Gd F w' { M with video:=lF M.video ((a-49152)%256) n } tk/\Gt F W w':=by
 obtain⟨j,e1,_⟩:=c;obtain⟨b,e,_,_⟩:=h.viV;have f:W.cell? ⟨F.g,34,G⟩=A (κ (A ⟨F.vi,0,G⟩) 256 b):=(h.at 34 F.S.vi D).trans (by rw[e]);obtain⟨k,l,m⟩:=h.viAt ((a-49152)%256) (by omega) (by omega);have i:bl a 256=(a-49152)%256:=by rw[ak (by omega)];omega
 have o:=h.bx.z;have H:=hid h;clear h e;go_enter func94,ntmps94;go_wp2_with (go_at_call 88;refine(Gm.reg2 a _ h1 h2).mono ?_;rintro e w1 ⟨rfl,rfl⟩)
 go_end0;exact⟨D,H.out.putVideo _ n (by omega) (by omega) d,(Gt.refl _ _).setV H.out.nd _ _⟩
theorem Gm.putP8(h:Gd F W M tk)(c:Pu F W mb hb lb gb)(a n:Int)(h1:53248<=a)(h2:a<=57343)(d:0<=n/\n<=255)(i:bl a 32=8):Δ ω 94 #[J Y a,J au n,pt mb 0,pt hb 0,pt lb 0,pt gb 0] W λe w'=>e=μ (Ψ #[])/\Gd F w' (M.putM 8 n) tk/\Gt F W w':=by
 obtain⟨j,e1,_⟩:=c.m;have c1:=h.at 63 (ν M.b.g) D;have f1:=h.bx.f 63;have k:=h.bx.z;have H:=hid h;clear h c;go_enter func94,ntmps94;go_wp2_with (go_at_call 88;refine(Gm.reg3 a _ h1 h2).mono ?_;rintro e w1 ⟨rfl,rfl⟩)
 go_end0;exact⟨D,H.out.put (M':=M.putM 8 n) 63 _ (by omega) D ⟨D,D,D,D,D⟩ (show Mach.fit { M with b:={ M.b with g:=ξ } } from { H.out.fit with main:=H.out.fit.main }),(Gt.refl _ _).set H.out.nd _ _⟩
theorem Gm.putP17(h:Gd F W M tk)(b:Pu F W mb hb lb gb)(a n:Int)(h1:53248<=a)(h2:a<=57343)(d:0<=n/\n<=255)(j:bl a 32=17):Δ ω 94 #[J Y a,J au n,pt mb 0,pt hb 0,pt lb 0,pt gb 0] W λe w'=>e=μ (Ψ #[])/\Gd F w' (M.putM 17 n) tk/\Gt F W w':=by
 obtain⟨k,e1,x1⟩:=b.m;have c1:=h.at 69 (J au M.m0) D;have c2:=h.at 71 (ν M.rung) D;have f1:=h.bx.f;have l:=h.bx.z;have i:mb≠F.g:=b.m.ne;have H:=hid h;clear h b;go_enter func94,ntmps94;go_wp2_with (go_at_call 88;refine(Gm.reg3 a _ h1 h2).mono ?_;rintro e w1 ⟨rfl,rfl⟩)
 go_end0;have c:Mach.fit { M with m0:=n }:=Mach.fit.of H.out.fit ⟨H.out.fit.main,H.out.fit.aux,H.out.fit.p0,H.out.fit.p1,H.out.fit.tr,H.out.fit.tc,H.out.fit.s,H.out.fit.fr,H.out.fit.to,d,H.out.fit.m1⟩ ⟨D,D,D,D,D⟩ D ⟨D,D,D⟩ ⟨D,D⟩ (Or.inl D);exact⟨D,(H.out.put (M':={ M with m0:=n }) (tk':=tk) 69 _ (by omega) D ⟨D,D,D,D,D⟩ c).put 71 _ (by omega) D ⟨D,D,D,D,D⟩ (show Mach.fit { M with m0:=n,rung:=Γ } from { c with main:=c.main }),((Gt.refl _ _).set H.out.nd _ _).set H.out.nd _ _⟩
theorem Gm.putPd(h:Gd F W M tk)(b:Pu F W mb hb lb gb)(a n:Int)(h1:53248<=a)(h2:a<=57343)(m:0<=n/\n<=255)(k:Int)(o:bl a 32=k)(k0:0<=k)(k1:k<=31)(p:(k == 0)=ξ)(q:(k == 2)=ξ)(r:(k == 3)=ξ)(s:(k == 4)=ξ)(t:(k == 8)=ξ)(c:(k == 10)=ξ)(d:(k == 11)=ξ)(f:(k == 12)=ξ)(g:(k == 13)=ξ)(i:(k == 14)=ξ)(j:(k == 16)=ξ)(l:(k == 17)=ξ):Δ ω 94 #[J Y a,J au n,pt mb 0,pt hb 0,pt lb 0,pt gb 0] W λe w'=>e=μ (Ψ #[])/\Gd F w' M tk/\Gt F W w':=by
 have H:=hid h;clear h b;go_enter func94,ntmps94;go_wp2_with (go_at_call 88;refine(Gm.reg3 a _ h1 h2).mono ?_;rintro e w1 ⟨rfl,rfl⟩)
 go_end0;exact⟨D,H.out,Gt.refl _ _⟩
end
end Go.Proofs.YthghjlinhokimaaGreatDoor
