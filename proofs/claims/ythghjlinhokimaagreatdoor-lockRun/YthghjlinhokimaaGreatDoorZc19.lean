/-
  Parts of a proof, joined.
-/
import Derived.Test.YthghjlinhokimaaGreatDoorZcA
import Derived.Test.YthghjlinhokimaaGreatDoorZc14
import Derived.Test.YthghjlinhokimaaGreatDoorZc16
set_option linter.all false
set_option maxRecDepth 100000
set_option maxHeartbeats 3200000
namespace Go.Proofs.YthghjlinhokimaaGreatDoor
open Go.ChangeShapes Go.WideShapes Go.ChangeAt Go.RowKit Go.Proofs.Tryz
section
variable {F : Fx} {W : World} {M M' : Mach} {tk : Tk}
theorem zv7:∀ s:Nat,s<256->bits .and .u8 (s:Int) 2=((s:Int)/2%2)*2:=by decide +kernel
theorem zih(s:Int)(h:0<=s/\s<=255):bits .and .u8 s 2=s/2%2*2:=by
 obtain⟨k,rfl⟩:=aB h.1;exact zv7 k (by omega)
theorem sB(x:Int):(x%2=0/\cH x=false) \/ (x%2=1/\cH x=true):=by
 unfold cH;rcases(by omega:x%2=0 \/ x%2=1) with h|h
 ·exact Or.inl ⟨h,by rw[h];rfl⟩
 ·exact Or.inr ⟨h,by rw[h];rfl⟩
theorem zq4{l:Bool}{a b:Int}(c:fu a)(hb:fu b):fu (et l a b):=zlD (P:=fu) l c hb
theorem TM.put_bd{t:TM}(n:Int)(h1:fu t.r)(h2:fu t.c):fu (t.put n).r/\fu (t.put n).c:=⟨h1,zq4 h1 h2⟩
theorem zoG(h:Bd F W M tk)(n:Int)(u:0<=n/\n<=255):Calls prog 187 #[pt F.g 0,.int .u8 n] W λe w'=>e=.returned (.tuple #[])/\Bd F w' (M.putM 4 n) tk/\Bt F W w':=by
 have c0:=h.at 41 (.int .u16 M.t.r) U;have c1:=h.at 42 (.int .u16 M.t.c) U;have c2:=h.at 43 (.bool M.t.on) U;have c3:=h.at 44 (.bool M.t.g) U;have y:=h.bx.f;have i:=h.bx.z;have H:=hid h;have v:=TM.put_bd (t:=M.t) n h.fit.tr h.fit.tc;have a1:=ze8 n u;have a2:=zih n u;have w:M.putM 4 n={ M with t:=M.t.put n }:=U;rw[w];have x:Mach.fit { M with t:=M.t.put n }:={ H.out.fit with main:=H.out.fit.main,tr:=v.1,tc:=v.2 }
 have j:=hid x;clear h x w;rcases sB n with⟨p,q⟩|⟨p,q⟩
 all_goals
  rw[p] at a1;rcases sB (n/2) with⟨r,s⟩|⟨r,s⟩
 all_goals
  rw[r] at a2;have k:=hid q;have m:=hid s;clear p q r s
 ·go_enter func187,ntmps187
  go_wp2_with (go_at_call 245;refine(zig _ _ _ _ _ _).mono ?_;rintro e w1 ⟨rfl,d⟩;obtain⟨o,f1⟩:=bQ d;have z2:F.g<w1.heap.size:=pB i d (by simp))
  go_end0;refine⟨U,?_,?_⟩
  ·exact(H.out.kept d).puts (M':={ M with t:=M.t.put n }) (tk':=tk) 41 [.int .u16 M.t.r,.int .u16 (et false M.t.r M.t.c),.bool false,.bool M.t.g] (by simp) (by unfold TM.put;rw[k.out,m.out];rfl) ⟨U,U,U,U,U⟩ j.out
  ·exact Bt.sets H.out.nd [.int .u16 M.t.r,.int .u16 (et false M.t.r M.t.c),.bool false,.bool M.t.g] 41 _ (Bt.kept (Bt.refl F W) H.out.big d)
 ·go_enter func187,ntmps187
  go_wp2_with (go_at_call 245;refine(zig _ _ _ _ _ _).mono ?_;rintro e w1 ⟨rfl,d⟩;obtain⟨o,f1⟩:=bQ d;have z2:F.g<w1.heap.size:=pB i d (by simp))
  go_end0;refine⟨U,?_,?_⟩
  ·exact((H.out.kept d).puts (M':={ M with t:=⟨M.t.r,et false M.t.r M.t.c,false,M.t.g⟩ }) (tk':=tk) 41 [.int .u16 M.t.r,.int .u16 (et false M.t.r M.t.c),.bool false,.bool M.t.g] (by simp) U ⟨U,U,U,U,U⟩ { H.out.fit with main:=H.out.fit.main,tr:=H.out.fit.tr,tc:=zq4 (l:=false) (a:=M.t.r) (b:=M.t.c) H.out.fit.tr H.out.fit.tc }).put 44 (.bool false) (by omega) (by unfold TM.put;rw[k.out,m.out];rfl) ⟨U,U,U,U,U⟩ j.out
  ·exact Bt.set H.out.nd (Bt.sets H.out.nd [.int .u16 M.t.r,.int .u16 (et false M.t.r M.t.c),.bool false,.bool M.t.g] 41 _ (Bt.kept (Bt.refl F W) H.out.big d)) 44 _
 ·go_enter func187,ntmps187
  go_wp2_with (go_at_call 245;refine(zig _ _ _ _ _ _).mono ?_;rintro e w1 ⟨rfl,d⟩;obtain⟨o,f1⟩:=bQ d;have z2:F.g<w1.heap.size:=pB i d (by simp))
  go_end0;refine⟨U,?_,?_⟩
  ·exact(H.out.kept d).puts (M':={ M with t:=M.t.put n }) (tk':=tk) 41 [.int .u16 M.t.r,.int .u16 (et true M.t.r M.t.c),.bool true,.bool M.t.g] (by simp) (by unfold TM.put;rw[k.out,m.out];rfl) ⟨U,U,U,U,U⟩ j.out
  ·exact Bt.sets H.out.nd [.int .u16 M.t.r,.int .u16 (et true M.t.r M.t.c),.bool true,.bool M.t.g] 41 _ (Bt.kept (Bt.refl F W) H.out.big d)
 ·go_enter func187,ntmps187
  go_wp2_with (go_at_call 245;refine(zig _ _ _ _ _ _).mono ?_;rintro e w1 ⟨rfl,d⟩;obtain⟨o,f1⟩:=bQ d;have z2:F.g<w1.heap.size:=pB i d (by simp))
  go_end0;refine⟨U,?_,?_⟩
  ·exact((H.out.kept d).puts (M':={ M with t:=⟨M.t.r,et true M.t.r M.t.c,true,M.t.g⟩ }) (tk':=tk) 41 [.int .u16 M.t.r,.int .u16 (et true M.t.r M.t.c),.bool true,.bool M.t.g] (by simp) U ⟨U,U,U,U,U⟩ { H.out.fit with main:=H.out.fit.main,tr:=H.out.fit.tr,tc:=zq4 (l:=true) (a:=M.t.r) (b:=M.t.c) H.out.fit.tr H.out.fit.tc }).put 44 (.bool false) (by omega) (by unfold TM.put;rw[k.out,m.out];rfl) ⟨U,U,U,U,U⟩ j.out
  ·exact Bt.set H.out.nd (Bt.sets H.out.nd [.int .u16 M.t.r,.int .u16 (et true M.t.r M.t.c),.bool true,.bool M.t.g] 41 _ (Bt.kept (Bt.refl F W) H.out.big d)) 44 _
end
def Pb(F:Gx)(W:World)(b:Nat):Prop:=b<W.heap.size/\W.cell? ⟨b,0,none⟩=some (pt F.g 0) /\ ¬ F.T b
section
variable {F : Gx} {W : World} {M : Mach} {tk : Tk} {gb mb : Nat}
theorem Pb.kept{w1:World}{b:Nat}(h:Pb F W b)(hb:Below W.heap.size W w1):Pb F w1 b:=⟨ap h.1 hb.size,(hb.cell (p:=⟨b,0,none⟩) h.1).trans h.2.1,h.2.2⟩
theorem Pb.moved{w1:World}{b:Nat}(h:Pb F W b)(hb:Gt F W w1):Pb F w1 b:=⟨ap h.1 (Mv.size hb),(Mv.cell hb h.1 h.2.2 0).trans h.2.1,h.2.2⟩
structure GdC (F : Gx) (W : World) (M : Mach) (tk : Tk) (b : Nat) (p : Pd) (wx : World) : Prop where
 bd:Gd F wx M tk
 bt:Gt F W wx
 bx:Bx wx b [.int .u8 p.d,.bool p.l,.int .u8 p.s]
 ne:b≠F.g
theorem GdC.mkA{w1:World}{p:Pd}(h:Gd F W M tk)(hB:Below W.heap.size W w1):GdC F W M tk w1.heap.size p (w1.alloc (.cells #[.int .u8 p.d,.bool p.l,.int .u8 p.s] 28)):=by
 have a:=ap h.bx.z hB.size;exact⟨(h.kept hB).over _,Gt.kept (Gt.refl F W) h.big (stA hB _),Bx.new w1 [.int .u8 p.d,.bool p.l,.int .u8 p.s] _ U,by omega⟩
theorem GdC.all{a:World}{b:Nat}{p:Pd}(h:GdC F W M tk b p a):a.cell? ⟨b,0,none⟩=some (.int .u8 p.d)/\a.cell? ⟨b,1,none⟩=some (.bool p.l)/\a.cell? ⟨b,2,none⟩=some (.int .u8 p.s):=⟨h.bx.at 0 _ rfl,h.bx.at 1 _ rfl,h.bx.at 2 _ rfl⟩
theorem Gm.getN(h:Gd F W M tk)(c:Pb F W gb)(a:Int)(hc:(0<=a/\a<32768) \/ (32768<=a/\a<49152) \/ (49152<=a/\a<53248) \/ (57344<=a/\a<=65535)):Calls prog 87 #[.int .u16 a,pt gb 0,pt mb 0] W λe w'=>e=.returned (.int .u8 (M.lookM a))/\Gd F w' M tk/\Gt F W w':=by
 obtain⟨d,e1,_⟩:=c;have hp:cu a=false:=by unfold cu;exact aF (by omega)
 have b:=hid (zdB h a (by omega));rw[hp] at b;have H:=hid h;clear h hp;simp only[bK,dt] at b;rcases hc with⟨h1,h2⟩|⟨h1,h2⟩|⟨h1,h2⟩|⟨h1,h2⟩
 all_goals
  go_enter func87,ntmps87;go_wp2_with (first
   | (go_at_call 88;(first|refine(Gm.reg0 a _ h1 h2).mono ?_|refine(Gm.reg1 a _ h1 h2).mono ?_|refine(Gm.reg2 a _ h1 h2).mono ?_|refine(Gm.reg4 a _ h1 h2).mono ?_);rintro e w1 ⟨rfl,rfl⟩)
   | (go_at_call 89;refine b.out.mono ?_;rintro e w1 ⟨rfl,rfl⟩))
  go_ret;exact⟨U,H.out,Gt.refl _ _⟩
theorem Gm.getQ(h:Gd F W M tk)(d:Pb F W mb)(a:Int)(h1:53248<=a)(h2:a<=57343)(k:Nat)(q:Int)(f:Int.tmod a 32=q)(hc:(k=6/\q=6) \/ (k=7/\q=7) \/ (k=17/\q=17) \/ (k=8/\q=8) \/ (k=4/\q=4) \/ (k=16/\q=16)):Calls prog 87 #[.int .u16 a,pt gb 0,pt mb 0] W λe w'=>e=.returned (.int .u8 (M.portM k).1)/\Gd F w' (M.portM k).2 tk/\Gt F W w':=by
 obtain⟨i,e2,_⟩:=d;have c1:=h.at 61 (.int .i64 M.b.l) U;have c2:=h.at 62 (.int .i64 M.b.a) U;have c3:=h.at 63 (.bool M.b.g) U;have c4:=h.at 43 (.bool M.t.on) U;have c5:=h.at 44 (.bool M.t.g) U;have j:=h.at 67 (.bool M.granted) U;have m:=h.at 68 (.bool M.held) U;have n:=h.at 70 (.int .u8 M.m1) U;have b0:=h.fit.b.l0;have b1:=h.fit.b.l1;have b2:=h.fit.b.a0;have b3:=h.fit.b.a1;have o:=h.bx.z;have H:=hid h;clear h;rcases hc with⟨rfl,rfl⟩|⟨rfl,rfl⟩|⟨rfl,rfl⟩|⟨rfl,rfl⟩|⟨rfl,rfl⟩|⟨rfl,rfl⟩
 all_goals
  go_enter func87,ntmps87;go_wp2_with (first|(go_at_call 88;refine(Gm.reg3 a _ h1 h2).mono ?_;rintro e w1 ⟨rfl,rfl⟩)|(go_at_call 91;refine(zfH _ _ _).mono ?_;rintro e w2 ⟨rfl,c⟩))
  first
  | (go_ret;first|exact⟨U,H.out,Gt.refl _ _⟩|exact⟨U,H.out.kept c,Gt.kept (Gt.refl F W) H.out.big c⟩)
  | (go_region_with (go_at_call 91;refine(zfH _ _ _).mono ?_;rintro e w2 ⟨rfl,c⟩)
     all_goals
      go_wp2;go_ret;exact⟨U,H.out.kept (bn (J W).drew c),Gt.kept (Gt.refl F W) H.out.big (bn (J W).drew c)⟩)
theorem Gm.getP0(h:Gd F W M tk)(m:Pb F W mb)(a:Int)(h1:53248<=a)(h2:a<=57343)(q:Int.tmod a 32=0):Calls prog 87 #[.int .u16 a,pt gb 0,pt mb 0] W λe w'=>e=.returned (.int .u8 (M.portM 0).1)/\Gd F w' (M.portM 0).2 tk/\Gt F W w':=by
 obtain⟨k,e2,_⟩:=m;have c0:=h.at 35 (.int .u8 M.p0.d) U;have c1:=h.at 36 (.bool M.p0.l) U;have c2:=h.at 37 (.int .u8 M.p0.s) U;have hp:=h.fit.p0;have i:Hid (Pb F W mb):=hid ⟨k,e2,by assumption⟩;have n:=h.bx.z;have H:=hid h;clear h;go_enter func87,ntmps87;go_upto_region 5 with(go_at_call 88;refine(Gm.reg3 a _ h1 h2).mono ?_;rintro e w1 ⟨rfl,rfl⟩)
 go_cut [5,6] (λv3 v4 o=>v3=.int .u8 M.p0.rd /\ ∃ b,v4=pt b 0/\GdC F W M tk b M.p0.next o)
 case first =>
  go_wp2_with (go_at_call 90;refine(zp9 _ _ _ _ hp.d hp.s).mono ?_;rintro e w2 ⟨rfl,j⟩)
  go_meet;exact⟨U,_,U,GdC.mkA H.out j⟩
 case rest =>
  obtain⟨rfl,b,rfl,c⟩:=hcut;obtain⟨r,d1,d2⟩:=c.all;have c0:=c.bd.at 35 (.int .u8 M.p0.d) U;have c1:=c.bd.at 36 (.bool M.p0.l) U;have c2:=c.bd.at 37 (.int .u8 M.p0.s) U;have f0:=c.bd.bx.f;have n:=c.bd.bx.z;have p:=c.bx.z;obtain⟨k,e2,_⟩:=i.out.moved c.bt;have g:=hid c;clear c;go_wp2;go_region_with fail
  all_goals go_wp2
  all_goals go_ret
  all_goals
   refine⟨U,?_,?_⟩
   ·exact g.out.bd.drew.puts (M':={ M with p0:=M.p0.next }) (tk':=tk) 35 [.int .u8 M.p0.next.d,.bool M.p0.next.l,.int .u8 M.p0.next.s] (by simp) U ⟨U,U,U,U,U⟩ { g.out.bd.fit with main:=g.out.bd.fit.main,p0:=Pd.next_ok g.out.bd.fit.p0 }
   ·exact Gt.sets g.out.bd.nd [.int .u8 M.p0.next.d,.bool M.p0.next.l,.int .u8 M.p0.next.s] 35 _ g.out.bt.drew
theorem Gm.getP1(h:Gd F W M tk)(m:Pb F W mb)(a:Int)(h1:53248<=a)(h2:a<=57343)(q:Int.tmod a 32=1):Calls prog 87 #[.int .u16 a,pt gb 0,pt mb 0] W λe w'=>e=.returned (.int .u8 (M.portM 1).1)/\Gd F w' (M.portM 1).2 tk/\Gt F W w':=by
 obtain⟨k,e2,_⟩:=m;have c0:=h.at 38 (.int .u8 M.p1.d) U;have c1:=h.at 39 (.bool M.p1.l) U;have c2:=h.at 40 (.int .u8 M.p1.s) U;have hp:=h.fit.p1;have i:Hid (Pb F W mb):=hid ⟨k,e2,by assumption⟩;have n:=h.bx.z;have H:=hid h;clear h;go_enter func87,ntmps87;go_upto_region 9 with(go_at_call 88;refine(Gm.reg3 a _ h1 h2).mono ?_;rintro e w1 ⟨rfl,rfl⟩)
 go_cut [7,8] (λv3 v4 o=>v3=.int .u8 M.p1.rd /\ ∃ b,v4=pt b 0/\GdC F W M tk b M.p1.next o)
 case first =>
  go_wp2_with (go_at_call 90;refine(zp9 _ _ _ _ hp.d hp.s).mono ?_;rintro e w2 ⟨rfl,j⟩)
  go_meet;exact⟨U,_,U,GdC.mkA H.out j⟩
 case rest =>
  obtain⟨rfl,b,rfl,c⟩:=hcut;obtain⟨r,d1,d2⟩:=c.all;have c0:=c.bd.at 38 (.int .u8 M.p1.d) U;have c1:=c.bd.at 39 (.bool M.p1.l) U;have c2:=c.bd.at 40 (.int .u8 M.p1.s) U;have f0:=c.bd.bx.f;have n:=c.bd.bx.z;have p:=c.bx.z;obtain⟨k,e2,_⟩:=i.out.moved c.bt;have g:=hid c;clear c;go_wp2;go_region_with fail
  all_goals go_wp2
  all_goals go_ret
  all_goals
   refine⟨U,?_,?_⟩
   ·exact g.out.bd.drew.puts (M':={ M with p1:=M.p1.next }) (tk':=tk) 38 [.int .u8 M.p1.next.d,.bool M.p1.next.l,.int .u8 M.p1.next.s] (by simp) U ⟨U,U,U,U,U⟩ { g.out.bd.fit with main:=g.out.bd.fit.main,p1:=Pd.next_ok g.out.bd.fit.p1 }
   ·exact Gt.sets g.out.bd.nd [.int .u8 M.p1.next.d,.bool M.p1.next.l,.int .u8 M.p1.next.s] 38 _ g.out.bt.drew
theorem Gm.getPd(h:Gd F W M tk)(d:Pb F W mb)(a:Int)(h1:53248<=a)(h2:a<=57343)(k:Int)(f:Int.tmod a 32=k)(g:0<=k)(i:k<=31)(j:(k == 0)=false)(l:(k == 1)=false)(m:(k == 4)=false)(n:(k == 6)=false)(o:(k == 7)=false)(p:(k == 8)=false)(b:(k == 16)=false)(c:(k == 17)=false):Calls prog 87 #[.int .u16 a,pt gb 0,pt mb 0] W λe w'=>e=.returned (.int .u8 255)/\Gd F w' M tk/\Gt F W w':=by
 have H:=hid h;clear h;go_enter func87,ntmps87;go_wp2_with (go_at_call 88;refine(Gm.reg3 a _ h1 h2).mono ?_;rintro e w1 ⟨rfl,rfl⟩)
 go_ret;exact⟨U,H.out,Gt.refl _ _⟩
theorem Gm.getM(h:Gd F W M tk)(f:Pb F W gb)(c:Pb F W mb)(a:Int)(l:0<=a/\a<=65535):Calls prog 87 #[.int .u16 a,pt gb 0,pt mb 0] W λe w'=>e=.returned (.int .u8 (M.rdM a).1)/\Gd F w' (M.rdM a).2 tk/\Gt F W w':=by
 unfold Mach.rdM;by_cases hp:cu a=true
 ·rw[Q hp]
  have b:53248<=a/\a<=57343:=by unfold cu at hp;simpa using hp
  have g:Int.tmod a 32=a%32:=aq (by omega);have hb:portNo a<32:=by unfold portNo;omega
  have d:Int.tmod a 32=((portNo a:Nat):Int):=by rw[g];unfold portNo;omega
  generalize portNo a=k at *;by_cases i:k=0
  ·subst i;exact Gm.getP0 h c a b.1 b.2 d
  by_cases e1:k=1
  ·subst e1;exact Gm.getP1 h c a b.1 b.2 d
  by_cases eq:k=6 \/ k=7 \/ k=17 \/ k=8 \/ k=4 \/ k=16
  ·exact Gm.getQ h c a b.1 b.2 k _ d (by omega)
  have j:M.portM k=(255,M):=by
   unfold Mach.portM;split <;> first|rfl|(exfalso;omega)
  rw[j];exact Gm.getPd h c a b.1 b.2 k d (by omega) (by omega) (by simp;omega) (by simp;omega) (by simp;omega) (by simp;omega) (by simp;omega) (by simp;omega) (by simp;omega) (by simp;omega)
 ·rw[G hp]
  have b:¬ (53248<=a/\a<=57343):=by unfold cu at hp;simpa using hp
  exact Gm.getN h f a (by omega)
end
structure Pu (F : Gx) (W : World) (mb hb lb gb : Nat) : Prop where
 m:Pb F W mb
 g:Pb F W gb
 h:hb<W.heap.size/\W.cell? ⟨hb,0,none⟩=some (cZ 92 #[]) /\ ¬ F.T hb
 l:lb<W.heap.size/\W.cell? ⟨lb,0,none⟩=some (cZ 93 #[]) /\ ¬ F.T lb
section
variable {F : Gx} {W : World} {M : Mach} {tk : Tk} {mb hb lb gb : Nat}
theorem Pu.moved{w1:World}(h:Pu F W mb hb lb gb)(a:Gt F W w1):Pu F w1 mb hb lb gb :=
 ⟨h.m.moved a,h.g.moved a,⟨ap h.h.1 (Mv.size a),(Mv.cell a h.h.1 h.h.2.2 0).trans h.h.2.1,h.h.2.2⟩,⟨ap h.l.1 (Mv.size a),(Mv.cell a h.l.1 h.l.2.2 0).trans h.l.2.1,h.l.2.2⟩⟩
theorem Pb.ne{b:Nat}(h:Pb F W b):b≠F.g:=λe=>h.2.2 (Or.inl e)
theorem Gm.high(x n:Int)(w:World)(a:fu x)(d:0<=n/\n<=255):Calls prog 92 #[.int .u16 x,.int .u8 n] w λe w'=>e=.returned (.int .u16 (nR x n))/\w=w':=by
 obtain⟨b,h1⟩:=a;have f:Int.tmod x 256=x%256:=aq b;have c:nR x n=x%256+n*256:=by unfold nR;omega
 rw[c];go_enter func92,ntmps92;go_wp2;go_ret;exact⟨U,U⟩
theorem Gm.low(x n:Int)(w:World)(a:fu x)(d:0<=n/\n<=255):Calls prog 93 #[.int .u16 x,.int .u8 n] w λe w'=>e=.returned (.int .u16 (ot x n))/\w=w':=by
 obtain⟨b,h1⟩:=a;have f:Int.tdiv x 256=x/256:=aD b;have c:ot x n=x/256*256+n:=U;rw[c];go_enter func93,ntmps93;go_wp2;go_ret;exact⟨U,U⟩
end
section
variable {F : Gx} {W : World} {M : Mach} {tk : Tk} {mb hb lb gb : Nat}
theorem Gm.putP0(h:Gd F W M tk)(Z:Pu F W mb hb lb gb)(a n:Int)(h1:53248<=a)(h2:a<=57343)(I:0<=n/\n<=255)(hk:Int.tmod a 32=0):Calls prog 94 #[.int .u16 a,.int .u8 n,pt mb 0,pt hb 0,pt lb 0,pt gb 0] W λe w'=>e=.returned (.tuple #[])/\Gd F w' (M.putM 0 n) tk/\Gt F W w':=by
 obtain⟨L,e1,x1⟩:=Z.m;have c0:=h.at 35 (.int .u8 M.p0.d) U;have c1:=h.at 36 (.bool M.p0.l) U;have c2:=h.at 37 (.int .u8 M.p0.s) U;have c3:=h.at 38 (.int .u8 M.p1.d) U;have c4:=h.at 39 (.bool M.p1.l) U;have c5:=h.at 40 (.int .u8 M.p1.s) U;have hg:=h.bx.z;have x:Hid (mb≠F.g):=hid Z.m.ne;have H:=hid h;clear h Z;go_enter func94,ntmps94;go_wp2_with (go_at_call 88;refine(Gm.reg3 a _ h1 h2).mono ?_;rintro e w1 ⟨rfl,rfl⟩)
 refine wp_region_held_drew (S:=λw'=>w'.cell? ⟨mb,0,none⟩=some (pt F.g 0)) (by kernel_rfl) (e1) ?_;intro i;refine A 0 i ?_;refine A 1 i ?_;refine A 2 i ?_;refine A 3 i ?_;refine A 4 i ?_;refine A 5 i ?_;refine A 7 i ?_;refine A 9 i ?_;refine A 10 i ?_;refine A 11 i ?_;refine A 12 i ?_;refine A 14 i ?_;refine A 16 i ?_;refine A 17 i ?_;refine A 20 i ?_;refine A 21 i ?_;refine wpAnyH_ready (rs:=[6,13]) (by kernel_rfl) (by simp) ?_;refine AllReadyH.cons (o:=⟨some 48,_,_,_,_,none⟩) U (λK c=>?_) (AllReadyH.cons (o:=⟨some 55,_,_,_,_,none⟩) U (λK c=>?_) AllReadyH.nil)
 ·go_simp
  refine eP c i (λ_=>?_);clear c K;refine wpAnyH_ready (rs:=[8,13]) (by kernel_rfl) (by simp) ?_;refine AllReadyH.cons (o:=⟨some 50,_,_,_,_,none⟩) U (λK c=>?_) (AllReadyH.cons (o:=⟨some 55,_,_,_,_,none⟩) U (λK c=>?_) AllReadyH.nil)
  ·go_simp
   go_at_call 95
   refine(sj _ _ _ _ _ I).mono ?_;rintro e w2 ⟨rfl,k⟩;have j:=hid (H.out.drew.kept k);have K1:Hid (w2.cell? ⟨F.g,38,none⟩=some (.int .u8 M.p1.d)/\w2.cell? ⟨F.g,39,none⟩=some (.bool M.p1.l)/\w2.cell? ⟨F.g,40,none⟩=some (.int .u8 M.p1.s)):=hid ⟨j.out.at 38 _ U,j.out.at 39 _ U,j.out.at 40 _ U⟩;have y:=hid (bn (J W).drew k);have N:=j.out.bx.z;try go_wp2_with fail
   have q:=(k.cell (p:=⟨mb,0,none⟩) L).trans i;refine eP c (q) (λ_=>?_);clear c K;clear i;have i:=q;clear q;refine dQ 13 (λK c=>?_);obtain⟨c3,c4,c5⟩:=K1.out;go_simp;refine eP c (i) (λ_=>?_);clear c K;refine dQ 15 (λK c=>?_);go_simp;go_at_call 95
   refine(sj _ _ _ _ _ I).mono ?_;rintro e v ⟨rfl,r⟩;have b:=hid (j.out.kept r);have E:=hid (bn y.out r);try go_wp2_with fail
   have t:=(r.cell (p:=⟨mb,0,none⟩) (ap L y.out.size)).trans i;refine eP c (t) (λ_=>?_);clear c K;clear i;have i:=t;clear t;have P:=b.out.at 35 _ U;have R:=b.out.at 36 _ U;have T:=b.out.at 37 _ U;have V:=b.out.at 38 _ U;have X:=b.out.at 39 _ U;have Y:=b.out.at 40 _ U;have gf:=b.out.bx.f;have gz:=b.out.bx.z;refine A 18 i ?_;refine dQ 19 (λK c=>?_);go_simp;refine eP c ((am (w:=v) (fO x.out [.int .u8 M.p0.d,.bool (cH n),.int .u8 (et (cH n) M.p0.d M.p0.s)] 35 v)).trans i) (λ_=>?_);clear c K;have B:(v.setCells F.g 35 [.int .u8 M.p0.d,.bool (cH n),.int .u8 (et (cH n) M.p0.d M.p0.s)]).cell? ⟨mb,0,none⟩=some (pt F.g 0):=(am (w:=v) (fO x.out [.int .u8 M.p0.d,.bool (cH n),.int .u8 (et (cH n) M.p0.d M.p0.s)] 35 v)).trans i;refine A 22 B ?_;refine dQ 23 (λK c=>?_);go_simp;refine eP c ((am (w:=v.setCells F.g 35 [.int .u8 M.p0.d,.bool (cH n),.int .u8 (et (cH n) M.p0.d M.p0.s)]) (fO x.out [.int .u8 M.p1.d,.bool (cH n),.int .u8 (et (cH n) M.p1.d M.p1.s)] 38 _)).trans B) (λ_=>?_)
   clear c K;refine wpAnyH_done (by kernel_rfl) ?_ _;go_simp;go_wp2;go_end0;have u:=b.out.puts (M':={ M with p0:=M.p0.wr n }) (tk':=tk) 35 [.int .u8 M.p0.d,.bool (cH n),.int .u8 (et (cH n) M.p0.d M.p0.s)] (by simp) U ⟨U,U,U,U,U⟩ { b.out.fit with main:=b.out.fit.main,p0:=Pd.wr_ok b.out.fit.p0 n };exact⟨U,u.puts (M':=M.putM 0 n) (tk':=tk) 38 [.int .u8 M.p1.d,.bool (cH n),.int .u8 (et (cH n) M.p1.d M.p1.s)] (by simp) U ⟨U,U,U,U,U⟩ (show Mach.fit { M with p0:=M.p0.wr n,p1:=M.p1.wr n } from { u.fit with main:=u.fit.main,p1:=Pd.wr_ok b.out.fit.p1 n }),Gt.sets H.out.nd [.int .u8 M.p1.d,.bool (cH n),.int .u8 (et (cH n) M.p1.d M.p1.s)] 38 _ (Gt.sets H.out.nd [.int .u8 M.p0.d,.bool (cH n),.int .u8 (et (cH n) M.p0.d M.p0.s)] 35 _ (Gt.under H.out E.out))⟩
  ·go_simp
   refine eP c i (λ_=>?_);clear c K;refine dQ 8 (λK c=>?_);go_simp;go_at_call 95
   refine(sj _ _ _ _ _ I).mono ?_;rintro e w2 ⟨rfl,k⟩;have j:=hid (H.out.drew.kept k);have K1:Hid (w2.cell? ⟨F.g,38,none⟩=some (.int .u8 M.p1.d)/\w2.cell? ⟨F.g,39,none⟩=some (.bool M.p1.l)/\w2.cell? ⟨F.g,40,none⟩=some (.int .u8 M.p1.s)):=hid ⟨j.out.at 38 _ U,j.out.at 39 _ U,j.out.at 40 _ U⟩;have y:=hid (bn (J W).drew k);have N:=j.out.bx.z;try go_wp2_with fail
   have q:=(k.cell (p:=⟨mb,0,none⟩) L).trans i;refine eP c (q) (λ_=>?_);clear c K;clear i;have i:=q;clear q;refine dQ 15 (λK c=>?_);go_simp;go_at_call 95
   refine(sj _ _ _ _ _ I).mono ?_;rintro e v ⟨rfl,r⟩;have b:=hid (j.out.kept r);have E:=hid (bn y.out r);try go_wp2_with fail
   have t:=(r.cell (p:=⟨mb,0,none⟩) (ap L y.out.size)).trans i;refine eP c (t) (λ_=>?_);clear c K;clear i;have i:=t;clear t;have P:=b.out.at 35 _ U;have R:=b.out.at 36 _ U;have T:=b.out.at 37 _ U;have V:=b.out.at 38 _ U;have X:=b.out.at 39 _ U;have Y:=b.out.at 40 _ U;have gf:=b.out.bx.f;have gz:=b.out.bx.z;refine A 18 i ?_;refine dQ 19 (λK c=>?_);go_simp;refine eP c ((am (w:=v) (fO x.out [.int .u8 M.p0.d,.bool (cH n),.int .u8 (et (cH n) M.p0.d M.p0.s)] 35 v)).trans i) (λ_=>?_);clear c K;have B:(v.setCells F.g 35 [.int .u8 M.p0.d,.bool (cH n),.int .u8 (et (cH n) M.p0.d M.p0.s)]).cell? ⟨mb,0,none⟩=some (pt F.g 0):=(am (w:=v) (fO x.out [.int .u8 M.p0.d,.bool (cH n),.int .u8 (et (cH n) M.p0.d M.p0.s)] 35 v)).trans i;refine A 22 B ?_;refine dQ 23 (λK c=>?_);go_simp;refine eP c ((am (w:=v.setCells F.g 35 [.int .u8 M.p0.d,.bool (cH n),.int .u8 (et (cH n) M.p0.d M.p0.s)]) (fO x.out [.int .u8 M.p1.d,.bool (cH n),.int .u8 (et (cH n) M.p1.d M.p1.s)] 38 _)).trans B) (λ_=>?_)
   clear c K;refine wpAnyH_done (by kernel_rfl) ?_ _;go_simp;go_wp2;go_end0;have u:=b.out.puts (M':={ M with p0:=M.p0.wr n }) (tk':=tk) 35 [.int .u8 M.p0.d,.bool (cH n),.int .u8 (et (cH n) M.p0.d M.p0.s)] (by simp) U ⟨U,U,U,U,U⟩ { b.out.fit with main:=b.out.fit.main,p0:=Pd.wr_ok b.out.fit.p0 n };exact⟨U,u.puts (M':=M.putM 0 n) (tk':=tk) 38 [.int .u8 M.p1.d,.bool (cH n),.int .u8 (et (cH n) M.p1.d M.p1.s)] (by simp) U ⟨U,U,U,U,U⟩ (show Mach.fit { M with p0:=M.p0.wr n,p1:=M.p1.wr n } from { u.fit with main:=u.fit.main,p1:=Pd.wr_ok b.out.fit.p1 n }),Gt.sets H.out.nd [.int .u8 M.p1.d,.bool (cH n),.int .u8 (et (cH n) M.p1.d M.p1.s)] 38 _ (Gt.sets H.out.nd [.int .u8 M.p0.d,.bool (cH n),.int .u8 (et (cH n) M.p0.d M.p0.s)] 35 _ (Gt.under H.out E.out))⟩
 ·go_simp
  refine eP c i (λ_=>?_);clear c K;refine dQ 6 (λK c=>?_);go_simp;refine eP c (i) (λ_=>?_);clear c K;refine dQ 8 (λK c=>?_);go_simp;go_at_call 95
  refine(sj _ _ _ _ _ I).mono ?_;rintro e w2 ⟨rfl,k⟩;have j:=hid (H.out.drew.kept k);have K1:Hid (w2.cell? ⟨F.g,38,none⟩=some (.int .u8 M.p1.d)/\w2.cell? ⟨F.g,39,none⟩=some (.bool M.p1.l)/\w2.cell? ⟨F.g,40,none⟩=some (.int .u8 M.p1.s)):=hid ⟨j.out.at 38 _ U,j.out.at 39 _ U,j.out.at 40 _ U⟩;have y:=hid (bn (J W).drew k);have N:=j.out.bx.z;try go_wp2_with fail
  have q:=(k.cell (p:=⟨mb,0,none⟩) L).trans i;refine eP c (q) (λ_=>?_);clear c K;clear i;have i:=q;clear q;refine dQ 15 (λK c=>?_);go_simp;go_at_call 95
  refine(sj _ _ _ _ _ I).mono ?_;rintro e v ⟨rfl,r⟩;have b:=hid (j.out.kept r);have E:=hid (bn y.out r);try go_wp2_with fail
  have t:=(r.cell (p:=⟨mb,0,none⟩) (ap L y.out.size)).trans i;refine eP c (t) (λ_=>?_);clear c K;clear i;have i:=t;clear t;have P:=b.out.at 35 _ U;have R:=b.out.at 36 _ U;have T:=b.out.at 37 _ U;have V:=b.out.at 38 _ U;have X:=b.out.at 39 _ U;have Y:=b.out.at 40 _ U;have gf:=b.out.bx.f;have gz:=b.out.bx.z;refine A 18 i ?_;refine dQ 19 (λK c=>?_);go_simp;refine eP c ((am (w:=v) (fO x.out [.int .u8 M.p0.d,.bool (cH n),.int .u8 (et (cH n) M.p0.d M.p0.s)] 35 v)).trans i) (λ_=>?_);clear c K;have B:(v.setCells F.g 35 [.int .u8 M.p0.d,.bool (cH n),.int .u8 (et (cH n) M.p0.d M.p0.s)]).cell? ⟨mb,0,none⟩=some (pt F.g 0):=(am (w:=v) (fO x.out [.int .u8 M.p0.d,.bool (cH n),.int .u8 (et (cH n) M.p0.d M.p0.s)] 35 v)).trans i;refine A 22 B ?_;refine dQ 23 (λK c=>?_);go_simp;refine eP c ((am (w:=v.setCells F.g 35 [.int .u8 M.p0.d,.bool (cH n),.int .u8 (et (cH n) M.p0.d M.p0.s)]) (fO x.out [.int .u8 M.p1.d,.bool (cH n),.int .u8 (et (cH n) M.p1.d M.p1.s)] 38 _)).trans B) (λ_=>?_)
  clear c K;refine wpAnyH_done (by kernel_rfl) ?_ _;go_simp;go_wp2;go_end0;have u:=b.out.puts (M':={ M with p0:=M.p0.wr n }) (tk':=tk) 35 [.int .u8 M.p0.d,.bool (cH n),.int .u8 (et (cH n) M.p0.d M.p0.s)] (by simp) U ⟨U,U,U,U,U⟩ { b.out.fit with main:=b.out.fit.main,p0:=Pd.wr_ok b.out.fit.p0 n };exact⟨U,u.puts (M':=M.putM 0 n) (tk':=tk) 38 [.int .u8 M.p1.d,.bool (cH n),.int .u8 (et (cH n) M.p1.d M.p1.s)] (by simp) U ⟨U,U,U,U,U⟩ (show Mach.fit { M with p0:=M.p0.wr n,p1:=M.p1.wr n } from { u.fit with main:=u.fit.main,p1:=Pd.wr_ok b.out.fit.p1 n }),Gt.sets H.out.nd [.int .u8 M.p1.d,.bool (cH n),.int .u8 (et (cH n) M.p1.d M.p1.s)] 38 _ (Gt.sets H.out.nd [.int .u8 M.p0.d,.bool (cH n),.int .u8 (et (cH n) M.p0.d M.p0.s)] 35 _ (Gt.under H.out E.out))⟩
end
section
variable {F : Gx} {W : World} {M : Mach} {tk : Tk} {mb hb lb gb : Nat}
theorem zrz(M:Mach)(c:Int):(if cu c then 255 else M.lookM c)=M.lookM c:=by
 by_cases hp:cu c=true
 ·rw[Q hp]
  have a:53248<=c/\c<=57343:=by unfold cu at hp;simpa using hp
  unfold Mach.lookM;rw[G (by omega),G (by omega),G (by omega)]
 ·rw[G hp]
theorem Gm.putP14(h:Gd F W M tk)(E:Pu F W mb hb lb gb)(a n:Int)(h1:53248<=a)(h2:a<=57343)(hn:0<=n/\n<=255)(hk:Int.tmod a 32=14)(htk:0<=tk.n/\tk.n<=1000000000000):Calls prog 94 #[.int .u16 a,.int .u8 n,pt mb 0,pt hb 0,pt lb 0,pt gb 0] W λe w'=>e=.returned (.tuple #[])/\Gd F w' (M.putM 14 n) (tk.add (2*n))/\Gt F W w':=by
 obtain⟨s,o,_,_⟩:=h.viV;have HC:=hid o;obtain⟨N,rfl⟩:=aB hn.1;have hN:N<=255:=by omega
 have H:=hid h;have HM:=hid E;have hfr:=h.fit.fr;have c:=h.fit.to;have q:Hid (mb≠F.vi/\F.g≠F.vi):=hid ⟨λe=>E.m.2.2 (Or.inr (Or.inr (Or.inr e))),h.nd.d.2.2.1⟩;clear h o E;go_enter func94,ntmps94;go_wp2_with (go_at_call 88;refine(Gm.reg3 a _ h1 h2).mono ?_;rintro e w1 ⟨rfl,rfl⟩)
 go_loopw [8] (λi wr=>∃ k:Nat,k<=N/\i=.int .i64 k/\Gd F wr (M.xfer k) tk/\Gt F W wr) (λi _=>N-(intOf i).toNat)
 case atStart=>exact⟨0,by omega,U,H.out,Gt.refl _ _⟩
 case round =>
  obtain⟨k,hk2,rfl,hB,t⟩:=hrel;have l:=hid (HM.out.moved t);have T:=l.out.m.2.1;have yM:=l.out.m.1;have eG:=l.out.g.2.1;have yG:=l.out.g.1;by_cases hlt:k<N
  ·obtain⟨r1,r2,_,_,r5,_⟩:=zjL M k
   have r:=hid hB;have I:=hid t;have u:=hB.at 65 (.int .u16 (M.xfer k).fr) U;have v:=hB.at 66 (.int .u16 (M.xfer k).to) U;have L:wr.cell? ⟨F.g,34,none⟩=some (.slice (some ⟨F.vi,0,none⟩) 256 s):=(hB.at 34 F.S.vi U).trans (by rw[HC.out]);rw[r1] at u;rw[r2] at v;have hg:=hB.bx.z;have HV:=hid (hB.viAt ((M.to+k)%65536%256) (by omega) (by omega));have V:(k:Int)<N:=by omega
   have w:=hid (zdB r.out.drew ((M.fr+k)%65536) (by omega));rw[zrz] at w;have y:=hid (r.out.drew.drew.putVideo ((M.to+k)%65536%256) ((M.xfer k).lookM ((M.fr+k)%65536)) (by omega) (by omega) (nC _ _));have P:=hid (Gt.setV r.out.nd (Mv.drew (Mv.drew I.out)) ((M.to+k)%65536%256).toNat (.int .u8 ((M.xfer k).lookM ((M.fr+k)%65536))));have hx0:=nC (M.xfer k) ((M.fr+k)%65536);have hw1:IntKind.u16.wrap (k:Int)=k:=by simp[IntKind.wrap,IntKind.bits,IntKind.signed] <;> omega
   have hw2:IntKind.u16.wrap (M.fr+k)=(M.fr+k)%65536:=by simp[IntKind.wrap,IntKind.bits,IntKind.signed] <;> omega
   have hw3:IntKind.i64.wrap (M.to+k)=M.to+k:=by rw[aI];have:=c.1;have:=c.2;omega
   have hw4:Int.tmod (M.to+k) 256=(M.to+k)%65536%256:=by rw[aq (by have:=c.1;omega)];omega
   have hw5:IntKind.i64.wrap ((M.to+k)%65536%256)=(M.to+k)%65536%256:=by rw[aI];omega
   have hw6:IntKind.i64.wrap M.to=M.to:=by rw[aI];have:=c.1;have:=c.2;omega
   generalize X:(M.xfer k).lookM ((M.fr+k)%65536)=x at *;have B:=hid X;have hj0:0<=(M.to+k)%65536%256:=by omega
   have hj1:(M.to+k)%65536%256<256:=by omega
   generalize Y:(M.to+k)%65536%256=j at *;have Z:=hid Y;clear X hB t Y;go_wp2;refine wp_region_held_drew (S:=λw'=>w'.cell? ⟨mb,0,none⟩=some (pt F.g 0)/\w'.cell? ⟨gb,0,none⟩=some (pt F.g 0)/\w'.cell? ⟨F.g,65,none⟩=some (.int .u16 M.fr)) (by kernel_rfl) (⟨T,eG,u⟩) ?_;intro b;refine A 0 b ?_;refine A 1 b ?_;refine A 2 b ?_;refine A 3 b ?_;refine A 4 b ?_;refine A 5 b ?_;refine A 6 b ?_;refine A 7 b ?_;refine dQ 8 (λK p=>?_);go_simp;go_at_call 89
   refine w.out.mono ?_;rintro e w2 ⟨rfl,rfl⟩;try go_wp2_with fail
   refine eP p (b) (λ_=>?_);clear p K;refine A 9 b ?_;refine wpAnyH_done (by kernel_rfl) ?_ _;go_simp;have R:=T;obtain⟨v1,v2,v3⟩:=HV.out;go_wp2;refine wp_region_held_drew (S:=λw'=>w'.cell? ⟨mb,0,none⟩=some (pt F.g 0)/\w'.cell? ⟨F.g,34,none⟩=some (.slice (some ⟨F.vi,0,none⟩) 256 s)/\w'.cell? ⟨F.g,66,none⟩=some (.int .u16 M.to)) (by kernel_rfl) (⟨R,L,v⟩) ?_;intro b;refine A 0 b ?_;refine A 1 b ?_;refine A 2 b ?_;refine A 3 b ?_;refine A 4 b ?_;refine A 5 b ?_;refine A 6 b ?_;refine A 7 b ?_;refine A 8 b ?_;refine A 9 b ?_;refine A 10 b ?_;refine A 11 b ?_;refine A 12 b ?_;refine dQ 13 (λK p=>?_);go_simp;refine eP p (b) (λ_=>?_);clear p K;refine dQ 14 (λK p=>?_);go_simp;refine eP p (⟨(am (dy q.out.1)).trans b.1,(am (dy q.out.2)).trans b.2.1,(am (dy q.out.2)).trans b.2.2⟩) (λ_=>?_);clear p K;refine wpAnyH_done (by kernel_rfl) ?_ _;try go_simp
   go_wp2
   go_roundw
   case rel =>
    refine⟨k+1,by omega,by go_num,?_,P.out⟩;have hp:=y.out;rw[<- B.out,<- Z.out] at hp;rw[<- B.out,<- Z.out];exact hp
   case measure=>simp[intOf];omega
  ·obtain rfl:k=N:=by omega
   have c1:=hB.at 76 (.int .i64 tk.n) U;have f1:=hB.bx.f 76;have hg:=hB.bx.z;have r:=hid hB;have I:=hid t;have e0:M.putM 14 (k:Int)=M.xfer k:=by show M.xfer (k:Int).toNat=_;rw[bH]
   have E0:=hid e0;clear hB t e0;go_wp2;go_end0;rw[E0.out];exact⟨U,r.out.put 76 _ (by omega) U ⟨U,U,U,U,U⟩ r.out.fit,Gt.set r.out.nd I.out 76 _⟩
end
section
variable {F : Gx} {W : World} {M : Mach} {tk : Tk} {mb hb lb gb : Nat}
theorem Gm.putN0(h:Gd F W M tk)(a n:Int)(h1:0<=a)(h2:a<32768):Calls prog 94 #[.int .u16 a,.int .u8 n,pt mb 0,pt hb 0,pt lb 0,pt gb 0] W λe w'=>e=.returned (.tuple #[])/\Gd F w' M tk/\Gt F W w':=by
 have H:=hid h;clear h;go_enter func94,ntmps94;go_wp2_with (go_at_call 88;refine(Gm.reg0 a _ h1 h2).mono ?_;rintro e w1 ⟨rfl,rfl⟩)
 go_end0;exact⟨U,H.out,Gt.refl _ _⟩
theorem Gm.putN4(h:Gd F W M tk)(a n:Int)(h1:57344<=a)(h2:a<=65535):Calls prog 94 #[.int .u16 a,.int .u8 n,pt mb 0,pt hb 0,pt lb 0,pt gb 0] W λe w'=>e=.returned (.tuple #[])/\Gd F w' M tk/\Gt F W w':=by
 have H:=hid h;clear h;go_enter func94,ntmps94;go_wp2_with (go_at_call 88;refine(Gm.reg4 a _ h1 h2).mono ?_;rintro e w1 ⟨rfl,rfl⟩)
 go_end0;exact⟨U,H.out,Gt.refl _ _⟩
theorem Gm.putN1(h:Gd F W M tk)(c:Pb F W mb)(a n:Int)(h1:32768<=a)(h2:a<49152)(d:0<=n/\n<=255):Calls prog 94 #[.int .u16 a,.int .u8 n,pt mb 0,pt hb 0,pt lb 0,pt gb 0] W λe w'=>e=.returned (.tuple #[])/\Gd F w' { M with ram:=iH M.ram ((a-32768)%128) n } tk/\Gt F W w':=by
 obtain⟨j,e1,_⟩:=c;obtain⟨b,e,_,_⟩:=h.ramV;have f:W.cell? ⟨F.g,32,none⟩=some (.slice (some ⟨F.ra,0,none⟩) 128 b):=(h.at 32 F.S.ra U).trans (by rw[e]);obtain⟨k,l,m⟩:=h.ramAt ((a-32768)%128) (by omega) (by omega);have i:Int.tmod (a-32768) 128=(a-32768)%128:=aq (by omega);have o:=h.bx.z;have H:=hid h;clear h e;go_enter func94,ntmps94;go_wp2_with (go_at_call 88;refine(Gm.reg1 a _ h1 h2).mono ?_;rintro e w1 ⟨rfl,rfl⟩)
 go_end0;exact⟨U,H.out.putRam _ n (by omega) (by omega) d,(Gt.refl _ _).setR H.out.nd _ _⟩
theorem Gm.putN2(h:Gd F W M tk)(c:Pb F W mb)(a n:Int)(h1:49152<=a)(h2:a<53248)(d:0<=n/\n<=255):Calls prog 94 #[.int .u16 a,.int .u8 n,pt mb 0,pt hb 0,pt lb 0,pt gb 0] W λe w'=>e=.returned (.tuple #[])/\Gd F w' { M with video:=iH M.video ((a-49152)%256) n } tk/\Gt F W w':=by
 obtain⟨j,e1,_⟩:=c;obtain⟨b,e,_,_⟩:=h.viV;have f:W.cell? ⟨F.g,34,none⟩=some (.slice (some ⟨F.vi,0,none⟩) 256 b):=(h.at 34 F.S.vi U).trans (by rw[e]);obtain⟨k,l,m⟩:=h.viAt ((a-49152)%256) (by omega) (by omega);have i:Int.tmod a 256=(a-49152)%256:=by rw[aq (by omega)];omega
 have o:=h.bx.z;have H:=hid h;clear h e;go_enter func94,ntmps94;go_wp2_with (go_at_call 88;refine(Gm.reg2 a _ h1 h2).mono ?_;rintro e w1 ⟨rfl,rfl⟩)
 go_end0;exact⟨U,H.out.putVideo _ n (by omega) (by omega) d,(Gt.refl _ _).setV H.out.nd _ _⟩
theorem Gm.putP8(h:Gd F W M tk)(c:Pu F W mb hb lb gb)(a n:Int)(h1:53248<=a)(h2:a<=57343)(d:0<=n/\n<=255)(i:Int.tmod a 32=8):Calls prog 94 #[.int .u16 a,.int .u8 n,pt mb 0,pt hb 0,pt lb 0,pt gb 0] W λe w'=>e=.returned (.tuple #[])/\Gd F w' (M.putM 8 n) tk/\Gt F W w':=by
 obtain⟨j,e1,_⟩:=c.m;have c1:=h.at 63 (.bool M.b.g) U;have f1:=h.bx.f 63;have k:=h.bx.z;have H:=hid h;clear h c;go_enter func94,ntmps94;go_wp2_with (go_at_call 88;refine(Gm.reg3 a _ h1 h2).mono ?_;rintro e w1 ⟨rfl,rfl⟩)
 go_end0;exact⟨U,H.out.put (M':=M.putM 8 n) 63 _ (by omega) U ⟨U,U,U,U,U⟩ (show Mach.fit { M with b:={ M.b with g:=false } } from { H.out.fit with main:=H.out.fit.main }),(Gt.refl _ _).set H.out.nd _ _⟩
theorem Gm.putP17(h:Gd F W M tk)(b:Pu F W mb hb lb gb)(a n:Int)(h1:53248<=a)(h2:a<=57343)(d:0<=n/\n<=255)(j:Int.tmod a 32=17):Calls prog 94 #[.int .u16 a,.int .u8 n,pt mb 0,pt hb 0,pt lb 0,pt gb 0] W λe w'=>e=.returned (.tuple #[])/\Gd F w' (M.putM 17 n) tk/\Gt F W w':=by
 obtain⟨k,e1,x1⟩:=b.m;have c1:=h.at 69 (.int .u8 M.m0) U;have c2:=h.at 71 (.bool M.rung) U;have f1:=h.bx.f;have l:=h.bx.z;have i:mb≠F.g:=b.m.ne;have H:=hid h;clear h b;go_enter func94,ntmps94;go_wp2_with (go_at_call 88;refine(Gm.reg3 a _ h1 h2).mono ?_;rintro e w1 ⟨rfl,rfl⟩)
 go_end0;have c:Mach.fit { M with m0:=n }:=Mach.fit.of H.out.fit ⟨H.out.fit.main,H.out.fit.aux,H.out.fit.p0,H.out.fit.p1,H.out.fit.tr,H.out.fit.tc,H.out.fit.s,H.out.fit.fr,H.out.fit.to,d,H.out.fit.m1⟩ ⟨U,U,U,U,U⟩ U ⟨U,U,U⟩ ⟨U,U⟩ (Or.inl U);exact⟨U,(H.out.put (M':={ M with m0:=n }) (tk':=tk) 69 _ (by omega) U ⟨U,U,U,U,U⟩ c).put 71 _ (by omega) U ⟨U,U,U,U,U⟩ (show Mach.fit { M with m0:=n,rung:=true } from { c with main:=c.main }),((Gt.refl _ _).set H.out.nd _ _).set H.out.nd _ _⟩
theorem Gm.putPd(h:Gd F W M tk)(b:Pu F W mb hb lb gb)(a n:Int)(h1:53248<=a)(h2:a<=57343)(m:0<=n/\n<=255)(k:Int)(o:Int.tmod a 32=k)(p:0<=k)(q:k<=31)(r:(k == 0)=false)(s:(k == 2)=false)(t:(k == 3)=false)(u:(k == 4)=false)(v:(k == 8)=false)(c:(k == 10)=false)(d:(k == 11)=false)(f:(k == 12)=false)(g:(k == 13)=false)(i:(k == 14)=false)(j:(k == 16)=false)(l:(k == 17)=false):Calls prog 94 #[.int .u16 a,.int .u8 n,pt mb 0,pt hb 0,pt lb 0,pt gb 0] W λe w'=>e=.returned (.tuple #[])/\Gd F w' M tk/\Gt F W w':=by
 have H:=hid h;clear h b;go_enter func94,ntmps94;go_wp2_with (go_at_call 88;refine(Gm.reg3 a _ h1 h2).mono ?_;rintro e w1 ⟨rfl,rfl⟩)
 go_end0;exact⟨U,H.out,Gt.refl _ _⟩
end
end Go.Proofs.YthghjlinhokimaaGreatDoor
