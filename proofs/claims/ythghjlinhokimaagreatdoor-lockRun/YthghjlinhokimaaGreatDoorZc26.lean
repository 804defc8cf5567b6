/-
  Parts of a proof, joined.
-/
import Derived.Test.YthghjlinhokimaaGreatDoorZcA
import Derived.Test.YthghjlinhokimaaGreatDoorZc22
import Derived.Test.YthghjlinhokimaaGreatDoorZc21
import Derived.Test.YthghjlinhokimaaGreatDoorZc23
import Derived.Test.YthghjlinhokimaaGreatDoorZc24
set_option linter.all false
set_option maxRecDepth 100000
set_option maxHeartbeats 3200000
namespace Go.Proofs.YthghjlinhokimaaGreatDoor
open Go.ChangeShapes Go.WideShapes Go.ChangeAt Go.RowKit Go.Proofs.Tryz
section
variable {F : Gx} {W : World} {M : Mach} {tk : Tk} {mb hb lb gb : Nat}
theorem Gx.putAux(F:Gx)(M:Mach)(tk:Tk)(c:C.Cpu):gN (F.cells M tk) 15 (bG c)=F.cells { M with aux:=c } tk:=by
 unfold Gx.cells D;simp only[bp];exact ou _ (bG c) (bG M.aux) (bG M.main) U
theorem Gx.putMain(F:Gx)(M:Mach)(tk:Tk)(c:C.Cpu):gN (F.cells M tk) 0 (bG c)=F.cells { M with main:=c } tk:=by
 unfold Gx.cells D;rw[bp];exact ou _ (bG c) (bG M.main) [] U
theorem Gm.putP16f(h:Gd F W M tk)(d:Pu F W mb hb lb gb)(a n:Int)(h1:53248<=a)(h2:a<=57343)(u:0<=n/\n<=255)(hk:Int.tmod a 32=16)(v:M.held=false):Calls prog 94 #[.int .u16 a,.int .u8 n,pt mb 0,pt hb 0,pt lb 0,pt gb 0] W λe w'=>e=.returned (.tuple #[])/\Gd F w' (M.putM 16 n) tk/\Gt F W w':=by
 obtain⟨L,e1,x1⟩:=d.m;have c:Hid (mb≠F.g/\gb≠F.g):=hid ⟨d.m.ne,d.g.ne⟩;have i:=hid d;have w:=h.at 67 (.bool M.granted) U;have j:=h.at 68 (.bool M.held) U;rw[v] at j;have N:=h.bx.f;have P:=h.bx.z;obtain⟨r,q1,r0,r1⟩:∃ r,Int.tmod n 2=r/\0<=r/\r<=1:=⟨_,U,by rw[aq u.1];omega⟩
 have R:Hid (cH n=(r == 1)):=hid (by rw[<- q1,aq u.1];rfl);obtain⟨m,x,k,T⟩:∃ m,Int.tdiv n 2=m/\0<=m/\m<=127:=⟨_,U,by rw[aD u.1];omega⟩
 have V:IntKind.u8.wrap m=m:=by simp[IntKind.wrap,IntKind.bits,IntKind.signed] <;> omega
 have l:m=n/2:=by rw[<- x,aD u.1]
 obtain⟨z,X,z0,z1⟩:∃ z,Int.tmod m 2=z/\0<=z/\z<=1:=⟨_,U,by rw[aq k];omega⟩
 have Z:Hid (cH (n/2)=(z == 1)):=hid (by rw[<- X,aq k,l];rfl);have EL:Hid (M.putM 16 n=M.grant n):=hid (by show M.letGo n=_;unfold Mach.letGo;rw[v];rfl);have H:=hid h;have HH:=hid v;clear h d v l;go_enter func94,ntmps94;go_wp2_with (go_at_call 88;refine(Gm.reg3 a _ h1 h2).mono ?_;rintro e w1 ⟨rfl,rfl⟩)
 refine wp_region_held_drew (S:=λw'=>w'.cell? ⟨mb,0,none⟩=some (pt F.g 0)/\w'.cell? ⟨gb,0,none⟩=some (pt F.g 0)) (by kernel_rfl) (⟨e1,i.out.g.2.1⟩) ?_;intro b;refine A 0 b ?_;refine A 1 b ?_;refine A 2 b ?_;refine A 3 b ?_;refine A 4 b ?_;refine A 5 b ?_;refine A 6 b ?_;refine A 7 b ?_;refine A 8 b ?_;refine A 9 b ?_;refine A 10 b ?_;refine dQ 11 (λK o=>?_);go_simp;refine eP o (⟨(am (dy c.out.1)).trans b.1,(am (dy c.out.2)).trans b.2⟩) (λ_=>?_);clear o K;have p:(W.drew.setCell ⟨F.g,67,none⟩ (.bool (r == 1))).cell? ⟨mb,0,none⟩=some (pt F.g 0)/\(W.drew.setCell ⟨F.g,67,none⟩ (.bool (r == 1))).cell? ⟨gb,0,none⟩=some (pt F.g 0):=⟨(am (dy c.out.1)).trans b.1,(am (dy c.out.2)).trans b.2⟩
 clear b;have b:=p;clear p;refine A 12 b ?_;refine A 13 b ?_;refine dQ 14 (λK o=>?_);go_simp;refine eP o (⟨(am (dy c.out.1)).trans b.1,(am (dy c.out.2)).trans b.2⟩) (λ_=>?_);clear o K;refine wpAnyH_done (by kernel_rfl) ?_ _;have hp:Gd F ((W.drew.setCell ⟨F.g,67,none⟩ (.bool (r == 1))).setCell ⟨F.g,68,none⟩ (.bool (z == 1))) (M.grant n) tk:=by
  have I:=(H.out.drew.put (M':={ M with granted:=cH n }) (tk':=tk) 67 (.bool (cH n)) (by omega) U ⟨U,U,U,U,U⟩ { H.out.fit with main:=H.out.fit.main }).put (M':=M.grant n) (tk':=tk) 68 (.bool (cH (n/2))) (by omega) U ⟨U,U,U,U,U⟩ (show Mach.fit { M with granted:=cH n,held:=cH (n/2) } from { H.out.fit with main:=H.out.fit.main });rw[R.out,Z.out] at I;exact I
 have y:=Gt.set H.out.nd (Gt.set H.out.nd (Mv.drew (Gt.refl F W)) 67 (.bool (r == 1))) 68 (.bool (z == 1));refine Pl.cutE (λY=>Gd F Y (M.grant n) tk/\Gt F W Y/\Pu F Y mb hb lb gb) ⟨hp,y,i.out.moved y⟩ ?_;rintro Y ⟨q,s,t⟩;have B:=hid q;have E:=hid s;have HY3:=hid t;clear q s t hp y b w j N P e1 L;go_wp2;go_end0;rw[EL.out];exact⟨U,B.out,E.out⟩
theorem Gm.putP16t(h:Gd F W M tk)(d:Pu F W mb hb lb gb)(a n:Int)(h1:53248<=a)(h2:a<=57343)(t:0<=n/\n<=255)(hk:Int.tmod a 32=16)(u:M.held=true)(v:n/2%2=1):Calls prog 94 #[.int .u16 a,.int .u8 n,pt mb 0,pt hb 0,pt lb 0,pt gb 0] W λe w'=>e=.returned (.tuple #[])/\Gd F w' (M.putM 16 n) tk/\Gt F W w':=by
 obtain⟨P,e1,x1⟩:=d.m;have c:Hid (mb≠F.g/\gb≠F.g):=hid ⟨d.m.ne,d.g.ne⟩;have i:=hid d;have w:=h.at 67 (.bool M.granted) U;have j:=h.at 68 (.bool M.held) U;rw[u] at j;have R:=h.bx.f;have T:=h.bx.z;obtain⟨r,q1,r0,r1⟩:∃ r,Int.tmod n 2=r/\0<=r/\r<=1:=⟨_,U,by rw[aq t.1];omega⟩
 have V:Hid (cH n=(r == 1)):=hid (by rw[<- q1,aq t.1];rfl);obtain⟨m,x,y,X⟩:∃ m,Int.tdiv n 2=m/\0<=m/\m<=127:=⟨_,U,by rw[aD t.1];omega⟩
 have Z:IntKind.u8.wrap m=m:=by simp[IntKind.wrap,IntKind.bits,IntKind.signed] <;> omega
 have k:m=n/2:=by rw[<- x,aD t.1]
 have q2:Int.tmod m 2=1:=by rw[aq y,k];exact v
 have L:Hid (cH (n/2)=true):=hid (by unfold cH;rw[v];rfl);have EL:Hid (M.putM 16 n=M.grant n):=hid (by show M.letGo n=_;unfold Mach.letGo;rw[u,L.out];rfl);have H:=hid h;have HH:=hid u;clear h d u k v;go_enter func94,ntmps94;go_wp2_with (go_at_call 88;refine(Gm.reg3 a _ h1 h2).mono ?_;rintro e w1 ⟨rfl,rfl⟩)
 refine wp_region_held_drew (S:=λw'=>w'.cell? ⟨mb,0,none⟩=some (pt F.g 0)/\w'.cell? ⟨gb,0,none⟩=some (pt F.g 0)) (by kernel_rfl) (⟨e1,i.out.g.2.1⟩) ?_;intro b;refine A 0 b ?_;refine A 1 b ?_;refine A 2 b ?_;refine A 3 b ?_;refine A 4 b ?_;refine A 5 b ?_;refine A 6 b ?_;refine A 7 b ?_;refine A 8 b ?_;refine A 9 b ?_;refine A 10 b ?_;refine dQ 11 (λK l=>?_);go_simp;refine eP l (⟨(am (dy c.out.1)).trans b.1,(am (dy c.out.2)).trans b.2⟩) (λ_=>?_);clear l K;have o:(W.drew.setCell ⟨F.g,67,none⟩ (.bool (r == 1))).cell? ⟨mb,0,none⟩=some (pt F.g 0)/\(W.drew.setCell ⟨F.g,67,none⟩ (.bool (r == 1))).cell? ⟨gb,0,none⟩=some (pt F.g 0):=⟨(am (dy c.out.1)).trans b.1,(am (dy c.out.2)).trans b.2⟩
 clear b;have b:=o;clear o;refine A 12 b ?_;refine A 13 b ?_;refine dQ 14 (λK l=>?_);go_simp;refine eP l (⟨(am (dy c.out.1)).trans b.1,(am (dy c.out.2)).trans b.2⟩) (λ_=>?_);clear l K;refine wpAnyH_done (by kernel_rfl) ?_ _;have hp:Gd F ((W.drew.setCell ⟨F.g,67,none⟩ (.bool (r == 1))).setCell ⟨F.g,68,none⟩ (.bool true)) (M.grant n) tk:=by
  have N:=(H.out.drew.put (M':={ M with granted:=cH n }) (tk':=tk) 67 (.bool (cH n)) (by omega) U ⟨U,U,U,U,U⟩ { H.out.fit with main:=H.out.fit.main }).put (M':=M.grant n) (tk':=tk) 68 (.bool (cH (n/2))) (by omega) U ⟨U,U,U,U,U⟩ (show Mach.fit { M with granted:=cH n,held:=cH (n/2) } from { H.out.fit with main:=H.out.fit.main });rw[V.out,L.out] at N;exact N
 have B:=Gt.set H.out.nd (Gt.set H.out.nd (Mv.drew (Gt.refl F W)) 67 (.bool (r == 1))) 68 (.bool true);refine Pl.cutE (λY=>Gd F Y (M.grant n) tk/\Gt F W Y/\Pu F Y mb hb lb gb) ⟨hp,B,i.out.moved B⟩ ?_;rintro Y ⟨p,q,s⟩;have E:=hid p;have I:=hid q;have HY3:=hid s;clear p q s hp B b w j R T e1 P;go_wp2;go_end0;rw[EL.out];exact⟨U,E.out,I.out⟩
theorem Gm.putP16g(h:Gd F W M tk)(I:Pu F W mb hb lb gb)(a n:Int)(h1:53248<=a)(h2:a<=57343)(hn:0<=n/\n<=255)(hk:Int.tmod a 32=16)(hh:M.held=true)(hs:n/2%2=0):Calls prog 94 #[.int .u16 a,.int .u8 n,pt mb 0,pt hb 0,pt lb 0,pt gb 0] W λe w'=>e=.returned (.tuple #[])/\Gd F w' (M.putM 16 n) tk/\Gt F W w':=by
 obtain⟨L,e1,x1⟩:=I.m;have c:Hid (mb≠F.g/\gb≠F.g):=hid ⟨I.m.ne,I.g.ne⟩;have o:=hid I;have c67:=h.at 67 (.bool M.granted) U;have N:=h.at 68 (.bool M.held) U;rw[hh] at N;have ff:=h.bx.f;have hg:=h.bx.z;obtain⟨r,q1,r0,r1⟩:∃ r,Int.tmod n 2=r/\0<=r/\r<=1:=⟨_,U,by rw[aq hn.1];omega⟩
 have E1:Hid (cH n=(r == 1)):=hid (by rw[<- q1,aq hn.1];rfl);obtain⟨m,hmq,hm0,hm1⟩:∃ m,Int.tdiv n 2=m/\0<=m/\m<=127:=⟨_,U,by rw[aD hn.1];omega⟩
 have hwm:IntKind.u8.wrap m=m:=by simp[IntKind.wrap,IntKind.bits,IntKind.signed] <;> omega
 have P:m=n/2:=by rw[<- hmq,aD hn.1]
 have q2:Int.tmod m 2=0:=by rw[aq hm0,P];exact hs
 have E2:Hid (cH (n/2)=false):=hid (by unfold cH;rw[hs];rfl);have EL:Hid (M.putM 16 n={ M.grant n with aux:=dO ((M.grant n).lookA 0) ((M.grant n).lookA 1),aready:=M.clock }):=hid (by show M.letGo n=_;unfold Mach.letGo;rw[hh,E2.out];rfl);have H:=hid h;have HH:=hid hh;clear h I hh P hs;go_enter func94,ntmps94;go_wp2_with (go_at_call 88;refine(Gm.reg3 a _ h1 h2).mono ?_;rintro e w1 ⟨rfl,rfl⟩)
 refine wp_region_held_drew (S:=λw'=>w'.cell? ⟨mb,0,none⟩=some (pt F.g 0)/\w'.cell? ⟨gb,0,none⟩=some (pt F.g 0)) (by kernel_rfl) (⟨e1,o.out.g.2.1⟩) ?_;intro b;refine A 0 b ?_;refine A 1 b ?_;refine A 2 b ?_;refine A 3 b ?_;refine A 4 b ?_;refine A 5 b ?_;refine A 6 b ?_;refine A 7 b ?_;refine A 8 b ?_;refine A 9 b ?_;refine A 10 b ?_;refine dQ 11 (λK d=>?_);go_simp;refine eP d (⟨(am (dy c.out.1)).trans b.1,(am (dy c.out.2)).trans b.2⟩) (λ_=>?_);clear d K;have R:(W.drew.setCell ⟨F.g,67,none⟩ (.bool (r == 1))).cell? ⟨mb,0,none⟩=some (pt F.g 0)/\(W.drew.setCell ⟨F.g,67,none⟩ (.bool (r == 1))).cell? ⟨gb,0,none⟩=some (pt F.g 0):=⟨(am (dy c.out.1)).trans b.1,(am (dy c.out.2)).trans b.2⟩
 clear b;have b:=R;clear R;refine A 12 b ?_;refine A 13 b ?_;refine dQ 14 (λK d=>?_);go_simp;refine eP d (⟨(am (dy c.out.1)).trans b.1,(am (dy c.out.2)).trans b.2⟩) (λ_=>?_);clear d K;refine wpAnyH_done (by kernel_rfl) ?_ _;have hp:Gd F ((W.drew.setCell ⟨F.g,67,none⟩ (.bool (r == 1))).setCell ⟨F.g,68,none⟩ (.bool false)) (M.grant n) tk:=by
  have hx:=(H.out.drew.put (M':={ M with granted:=cH n }) (tk':=tk) 67 (.bool (cH n)) (by omega) U ⟨U,U,U,U,U⟩ { H.out.fit with main:=H.out.fit.main }).put (M':=M.grant n) (tk':=tk) 68 (.bool (cH (n/2))) (by omega) U ⟨U,U,U,U,U⟩ (show Mach.fit { M with granted:=cH n,held:=cH (n/2) } from { H.out.fit with main:=H.out.fit.main });rw[E1.out,E2.out] at hx;exact hx
 have E:=Gt.set H.out.nd (Gt.set H.out.nd (Mv.drew (Gt.refl F W)) 67 (.bool (r == 1))) 68 (.bool false);refine Pl.cutE (λY=>Gd F Y (M.grant n) tk/\Gt F W Y/\Pu F Y mb hb lb gb) ⟨hp,E,o.out.moved E⟩ ?_;rintro Y ⟨T,X,Z⟩;have j:=hid T;have HY2:=hid X;have q:=hid Z;clear T X Z hp E b c67 N ff hg e1 L;generalize hG:M.grant n=ag at *;have HCL:Hid (M.clock=ag.clock):=hid (by rw[<- hG];rfl);have e1:=q.out.m.2.1;have e2:=q.out.g.2.1;have L:=q.out.m.1;have y2:=q.out.g.1;have yg:=j.out.bx.z;clear hG E1 E2 H HH;go_wp2;refine wp_region_held_drew (S:=λw'=>w'.cell? ⟨mb,0,none⟩=some (pt F.g 0)/\w'.cell? ⟨gb,0,none⟩=some (pt F.g 0)) (by kernel_rfl) (⟨e1,e2⟩) ?_;intro b;refine A 0 b ?_;refine A 1 b ?_;refine dQ 2 (λK d=>?_);go_simp;go_at_call 74
 refine(zo0 F.g _).mono ?_;rintro e w2 ⟨rfl,s,hv2⟩;have x:=hid (j.out.drew.kept s);have t:=hid (bn (J Y).drew s);have HP2:=hid (AuxV.pb j.out.drew hv2);clear hv2;try go_wp2_with fail
 have y:w2.cell? ⟨mb,0,none⟩=some (pt F.g 0)/\w2.cell? ⟨gb,0,none⟩=some (pt F.g 0):=⟨(s.cell (p:=⟨mb,0,none⟩) L).trans b.1,(s.cell (p:=⟨gb,0,none⟩) y2).trans b.2⟩
 refine eP d (y) (λ_=>?_);clear d K;clear b;have b:=y;clear y;refine dQ 3 (λK d=>?_);go_simp;go_at_call 48
 refine(zo1 x.out HP2.out.2).mono ?_;rintro e w3 ⟨rfl,u⟩;have k:=hid (x.out.kept u);have HB3:=hid (bn t.out u);try go_wp2_with fail
 have B:w3.cell? ⟨mb,0,none⟩=some (pt F.g 0)/\w3.cell? ⟨gb,0,none⟩=some (pt F.g 0):=⟨(u.cell (p:=⟨mb,0,none⟩) (ap L t.out.size)).trans b.1,(u.cell (p:=⟨gb,0,none⟩) (ap y2 t.out.size)).trans b.2⟩
 refine eP d (B) (λ_=>?_);clear d K;clear b;have b:=B;clear B;refine A 4 b ?_;refine A 5 b ?_;refine pE (i:=6) (op:=⟨none,_,_,_,_,none⟩) (by kernel_rfl) U U 25 _ _ U F.g 15 (gD (ag.lookA 0*256+ag.lookA 1)).toArray U U (k.out.bx.there 15 15 (by rw[F.len];omega)) nU (sC _) ⟨(am (fO c.out.1 _ _ _)).trans b.1,(am (fO c.out.2 _ _ _)).trans b.2⟩ ?_;refine wpAnyH_done (by kernel_rfl) ?_ _;have hp:=k.out.puts (M':={ ag with aux:=dO (ag.lookA 0) (ag.lookA 1) }) (tk':=tk) 15 (bG (dO (ag.lookA 0) (ag.lookA 1))) (by simp[bG]) (F.putAux ag tk _) ⟨U,U,U,U,U⟩ (Mach.fit.of k.out.fit { k.out.fit with main:=k.out.fit.main,aux:=tK _ _ (pR _ _) (pR _ _) } ⟨U,U,U,U,U⟩ U ⟨U,U,U⟩ ⟨U,U⟩ (Or.inl U));have E:=Gt.sets j.out.nd (bG (dO (ag.lookA 0) (ag.lookA 1))) 15 _ (Mv.trans HY2.out (Gt.under j.out HB3.out));refine Pl.cutE (λV=>Gd F V { ag with aux:=dO (ag.lookA 0) (ag.lookA 1) } tk/\Gt F W V) ⟨hp,E⟩ ?_;rintro V ⟨l,v⟩
 have w:=hid l;have HV2:=hid v;have e3:=(o.out.moved v).m.2.1;have y3:=(o.out.moved v).m.1;have c72:V.cell? ⟨F.g,72,none⟩=some (.int .i64 M.clock):=by rw[HCL.out];exact l.at 72 _ U
 have c74:=l.at 74 (.int .i64 ag.aready) U;have vf:=l.bx.f;have vg:=l.bx.z;clear l v hp E b e1 e2 L y2 yg x k t HB3 HP2;go_wp2;refine wp_region_held_drew (S:=λw'=>w'.cell? ⟨mb,0,none⟩=some (pt F.g 0)/\w'.cell? ⟨F.g,72,none⟩=some (.int .i64 M.clock)) (by kernel_rfl) (⟨e3,c72⟩) ?_;intro b;refine A 0 b ?_;refine A 1 b ?_;refine A 2 b ?_;refine A 3 b ?_;refine A 4 b ?_;refine A 5 b ?_;refine A 6 b ?_;refine dQ 7 (λK d=>?_);go_simp;refine eP d (⟨(am (dy c.out.1)).trans b.1,(az _ _ _ _ (by simp)).trans b.2⟩) (λ_=>?_);clear d K;refine wpAnyH_done (by kernel_rfl) ?_ _;go_simp;go_wp2;go_end0;rw[EL.out];exact⟨U,w.out.drew.put (M':={ ag with aux:=dO (ag.lookA 0) (ag.lookA 1),aready:=M.clock }) (tk':=tk) 74 _ (by omega) U ⟨U,U,U,U,U⟩ (Mach.fit.of w.out.fit { w.out.fit with main:=w.out.fit.main } ⟨U,U,U,U,U⟩ U ⟨U,U,U⟩ ⟨U,U⟩ (Or.inr HCL.out)),Gt.set j.out.nd (Mv.drew HV2.out) 74 _⟩
theorem Gm.putP16(h:Gd F W M tk)(b:Pu F W mb hb lb gb)(a n:Int)(h1:53248<=a)(h2:a<=57343)(c:0<=n/\n<=255)(d:Int.tmod a 32=16):Calls prog 94 #[.int .u16 a,.int .u8 n,pt mb 0,pt hb 0,pt lb 0,pt gb 0] W λe w'=>e=.returned (.tuple #[])/\Gd F w' (M.putM 16 n) tk/\Gt F W w':=by
 cases f:M.held
 ·exact Gm.putP16f h b a n h1 h2 c d f
 ·have hc:n/2%2=0 \/ n/2%2=1:=by omega
  rcases hc with g|g
  ·exact Gm.putP16g h b a n h1 h2 c d f g
  ·exact Gm.putP16t h b a n h1 h2 c d f g
end
def jQ(F:Gx)(W w':World)(M:Mach)(tk:Tk)(l:List Wt):Prop:=(∃ v,Gd F w' M (tk.app l v))/\Gw F W w'/\(tk.v.ownBlock=none->∀ k,k<W.heap.size->¬ F.T k->w'.heap[k]?=W.heap[k]?)
section
variable {F : Gx} {W : World} {M M' : Mach} {tk : Tk} {gb mb : Nat}
theorem ly{w1:World}{l:List Wt}(h:Gd F w1 M tk)(b:l=[])(a:Gt F W w1):jQ F W w1 M tk l:=⟨(wq h b a).1,a.w,λ_ k c d=>a.block k c d⟩
theorem Gm.auxN0(h:Gd F W M tk)(a n:Int)(h1:0<=a)(h2:a<32768):Calls prog 150 #[.int .u16 a,.int .u8 n,pt mb 0,pt gb 0] W λe w'=>e=.returned (.tuple #[])/\jQ F W w' M tk []:=by
 have H:=hid h;clear h;go_enter func150,ntmps150;go_wp2_with (go_at_call 88;refine(Gm.reg0 a _ h1 h2).mono ?_;rintro e w1 ⟨rfl,rfl⟩)
 go_end0;exact⟨U,ly H.out U (Gt.refl _ _)⟩
theorem Gm.auxN4(h:Gd F W M tk)(a n:Int)(h1:57344<=a)(h2:a<=65535):Calls prog 150 #[.int .u16 a,.int .u8 n,pt mb 0,pt gb 0] W λe w'=>e=.returned (.tuple #[])/\jQ F W w' M tk []:=by
 have H:=hid h;clear h;go_enter func150,ntmps150;go_wp2_with (go_at_call 88;refine(Gm.reg4 a _ h1 h2).mono ?_;rintro e w1 ⟨rfl,rfl⟩)
 go_end0;exact⟨U,ly H.out U (Gt.refl _ _)⟩
theorem Gm.auxN1(h:Gd F W M tk)(c:Pb F W mb)(a n:Int)(h1:32768<=a)(h2:a<49152)(d:0<=n/\n<=255):Calls prog 150 #[.int .u16 a,.int .u8 n,pt mb 0,pt gb 0] W λe w'=>e=.returned (.tuple #[])/\jQ F W w' { M with own:=iH M.own ((a-32768)%64) n } tk []:=by
 obtain⟨j,e1,_⟩:=c;obtain⟨b,e,_,_⟩:=h.ownV;have f:W.cell? ⟨F.g,33,none⟩=some (.slice (some ⟨F.ow,0,none⟩) 64 b):=(h.at 33 F.S.ow U).trans (by rw[e]);obtain⟨k,l,m⟩:=h.ownAt ((a-32768)%64) (by omega) (by omega);have i:Int.tmod (a-32768) 64=(a-32768)%64:=aq (by omega);have o:=h.bx.z;have H:=hid h;clear h e;go_enter func150,ntmps150;go_wp2_with (go_at_call 88;refine(Gm.reg1 a _ h1 h2).mono ?_;rintro e w1 ⟨rfl,rfl⟩)
 go_end0;exact⟨U,ly (H.out.putOwn _ n (by omega) (by omega) d) U ((Gt.refl _ _).setO H.out.nd _ _)⟩
theorem Gm.auxN2(h:Gd F W M tk)(f:Pb F W mb)(a n:Int)(h1:49152<=a)(h2:a<53248)(i:0<=n/\n<=255)(b:M.granted=true):Calls prog 150 #[.int .u16 a,.int .u8 n,pt mb 0,pt gb 0] W λe w'=>e=.returned (.tuple #[])/\jQ F W w' { M with ram:=iH M.ram ((a-49152)%128) n } tk []:=by
 obtain⟨l,e1,_⟩:=f;obtain⟨c,e,_,_⟩:=h.ramV;have j:W.cell? ⟨F.g,32,none⟩=some (.slice (some ⟨F.ra,0,none⟩) 128 c):=(h.at 32 F.S.ra U).trans (by rw[e]);obtain⟨m,o,p⟩:=h.ramAt ((a-49152)%128) (by omega) (by omega);have k:Int.tmod a 128=(a-49152)%128:=by rw[aq (by omega)];omega
 have d:=h.at 67 (.bool M.granted) U;rw[b] at d;have q:=h.bx.z;have H:=hid h;clear h e b;go_enter func150,ntmps150;go_wp2_with (go_at_call 88;refine(Gm.reg2 a _ h1 h2).mono ?_;rintro e w1 ⟨rfl,rfl⟩)
 go_end0;exact⟨U,ly (H.out.putRam _ n (by omega) (by omega) i) U ((Gt.refl _ _).setR H.out.nd _ _)⟩
theorem Gm.auxN3(h:Gd F W M tk)(d:Pb F W mb)(a n:Int)(h1:49152<=a)(h2:a<53248)(b:M.granted=false):Calls prog 150 #[.int .u16 a,.int .u8 n,pt mb 0,pt gb 0] W λe w'=>e=.returned (.tuple #[])/\jQ F W w' M tk []:=by
 obtain⟨f,e1,_⟩:=d;have c:=h.at 67 (.bool M.granted) U;rw[b] at c;have g:=h.bx.z;have H:=hid h;clear h b;go_enter func150,ntmps150;go_wp2_with (go_at_call 88;refine(Gm.reg2 a _ h1 h2).mono ?_;rintro e w1 ⟨rfl,rfl⟩)
 go_end0;exact⟨U,ly H.out U (Gt.refl _ _)⟩
theorem Gm.auxP24(h:Gd F W M tk)(b:Pb F W mb)(a n:Int)(h1:53248<=a)(h2:a<=57343)(c:0<=n/\n<=255)(d:Int.tmod a 32=24):Calls prog 150 #[.int .u16 a,.int .u8 n,pt mb 0,pt gb 0] W λe w'=>e=.returned (.tuple #[])/\jQ F W w' { M with m1:=n } tk []:=by
 obtain⟨g,e1,_⟩:=b;have c1:=h.at 70 (.int .u8 M.m1) U;have f1:=h.bx.f 70;have i:=h.bx.z;have H:=hid h;clear h;go_enter func150,ntmps150;go_wp2_with (go_at_call 88;refine(Gm.reg3 a _ h1 h2).mono ?_;rintro e w1 ⟨rfl,rfl⟩)
 go_end0;exact⟨U,ly (H.out.put (M':={ M with m1:=n }) (tk':=tk) 70 _ (by omega) U ⟨U,U,U,U,U⟩ (Mach.fit.of H.out.fit ⟨H.out.fit.main,H.out.fit.aux,H.out.fit.p0,H.out.fit.p1,H.out.fit.tr,H.out.fit.tc,H.out.fit.s,H.out.fit.fr,H.out.fit.to,H.out.fit.m0,c⟩ ⟨U,U,U,U,U⟩ U ⟨U,U,U⟩ ⟨U,U⟩ (Or.inl U))) U (Gt.set H.out.nd (Gt.refl _ _) _ _)⟩
theorem Gm.auxPd(h:Gd F W M tk)(a n:Int)(h1:53248<=a)(h2:a<=57343)(k:Int)(c:Int.tmod a 32=k)(d:24<=k)(f:k<=31)(b:(k == 24)=false):Calls prog 150 #[.int .u16 a,.int .u8 n,pt mb 0,pt gb 0] W λe w'=>e=.returned (.tuple #[])/\jQ F W w' M tk []:=by
 have H:=hid h;clear h;go_enter func150,ntmps150;go_wp2_with (go_at_call 88;refine(Gm.reg3 a _ h1 h2).mono ?_;rintro e w1 ⟨rfl,rfl⟩)
 go_end0;exact⟨U,ly H.out U (Gt.refl _ _)⟩
theorem Gx.putSnd(F:Gx)(M:Mach)(tk:Tk)(s:Sd):gN (F.cells M tk) 45 (dA s)=F.cells { M with s:=s } tk:=by
 have e:∀ M:Mach,F.cells M tk=(bG M.main++(bG M.aux++(sq F.S++mR M)))++(dA M.s++(o8 M++[tk.v,.int .i64 tk.n])):=by
  intro M;unfold Gx.cells D;rw[znw];simp only[bp]
 rw[e M,e];exact ou _ (dA s) (dA M.s) (bG M.main++(bG M.aux++(sq F.S++mR M))) U
theorem Gd.sndR(h:Gd F W M tk):W.rangeAt F.g 45 (dA M.s):=λi v hi=>by
 have a:=(aA.1 hi).1;have hc:i=0 \/ i=1 \/ i=2 \/ i=3 \/ i=4 \/ i=5 \/ i=6 \/ i=7 \/ i=8 \/ i=9 \/ i=10 \/ i=11 \/ i=12 \/ i=13 \/ i=14 \/ i=15:=by simp[dA] at a;omega
 refine h.at (45+i) v ?_;rcases hc with rfl|rfl|rfl|rfl|rfl|rfl|rfl|rfl|rfl|rfl|rfl|rfl|rfl|rfl|rfl|rfl <;> exact hi
theorem xn(F:Gx)(M:Mach)(tk:Tk)(l:List Wt)(v:Value):(F.cells M tk).set 75 v=F.cells M (tk.app l v):=rfl
theorem Gd.apart_new(h:Gd F W M tk):F.apart M (λj=>j=W.heap.size):=⟨λhp k a e=>by have:=h.mr.lt hp k a;omega,λhp k a e=>by have:=h.ar.lt hp k a;omega⟩
theorem Gd.wrote(h:Gd F W M tk){i:World}{x:Wt}{b f:Nat}(o:W.grownBy i tk.v.ownBlock)(p:i.ownsRow F.B 104 3 (.slice (some ⟨b,0,none⟩) (tk.l.length+1) f) (tk.l.length+1) (kv tk.l++[.int .i64 x.c,.int .i64 x.a,.int .u8 x.v]))(s:tk.v.ownBlock=some b \/ b=W.heap.size):Gd F (i.setCell ⟨F.g,75,none⟩ (.slice (some ⟨b,0,none⟩) (tk.l.length+1) f)) M (tk.app [x] (.slice (some ⟨b,0,none⟩) (tk.l.length+1) f))/\Gw F W (i.setCell ⟨F.g,75,none⟩ (.slice (some ⟨b,0,none⟩) (tk.l.length+1) f)):=by
 have m:¬ F.T b/\F.apart M (λj=>j=b):=by
  rcases s with e|e
  ·exact h.wd b e
  ·rw[e];exact⟨h.fresh (ak _),h.apart_new⟩
 have k:∀ j,j<W.heap.size->F.T j->i.heap[j]?=W.heap[j]?:=λj q y=>o.block j q (λe=>(h.wd j e.symm).1 y)
 have n:W.heap.size<=i.heap.size:=o.size;have t:W.heap.size<=(i.setCell ⟨F.g,75,none⟩ (.slice (some ⟨b,0,none⟩) (tk.l.length+1) f)).heap.size:=by rw[iF];exact n
 obtain⟨d1,d2,d3,_⟩:=h.nd.d;refine⟨⟨xn F M tk [x] _ ▸ (h.bx.same n (k _ h.bx.z (Or.inl U))).set 75 _ (by rw[F.len];omega),?_,?_,?_,?_,?_,h.nd,h.fit,ax h.big t,?_,h.rd,?_⟩,(Gw.grown h o).trans (Gt.w (Gt.set h.nd (Gt.refl F i) 75 _))⟩
 ·exact(h.mr.same n (λhp j e q=>o.block j q (λe2=>(h.wd j e2.symm).2.1 hp j e U))).same (by rw[iF];exact ak _) (λhp j e _=>dy (λe2=>h.rd.1 hp j e (Or.inl e2)))
 ·exact(h.ar.same n (λhp j e q=>o.block j q (λe2=>(h.wd j e2.symm).2.2 hp j e U))).same (by rw[iF];exact ak _) (λhp j e _=>dy (λe2=>h.rd.2 hp j e (Or.inl e2)))
 ·exact(h.ra.same n (λr=>k _ r (Or.inr (Or.inl U)))).same (by rw[iF];exact ak _) (λ_=>dy (br d1))
 ·exact(h.ow.same n (λr=>k _ r (Or.inr (Or.inr (Or.inl U))))).same (by rw[iF];exact ak _) (λ_=>dy (br d2))
 ·exact(h.vi.same n (λr=>k _ r (Or.inr (Or.inr (Or.inr U))))).same (by rw[iF];exact ak _) (λ_=>dy (br d3))
 ·refine fF (w:=i) ?_ (λj e=>dy (λe2=>?_))
  ·show i.ownsRow F.B 104 3 _ (tk.l++[x]).length (kv (tk.l++[x]))
   rw[aC,zlF];exact p
  ·have u:b=j:=by cases e;rfl
   exact m.1 (by rw[u,e2];exact Or.inl U)
 ·intro j e
  have u:b=j:=by cases e;rfl
  rw[<- u];exact m
theorem zt0(h:Gd F W M tk):∃ ua uc,tk.v=.slice ua tk.l.length uc:=by
 rcases h.ws.2 with⟨e,e2⟩|⟨g,a,b,e,_⟩
 ·exact⟨none,0,by rw[e,e2]⟩
 ·exact⟨_,_,e⟩
theorem Gm.auxPs(h:Gd F W M tk)(hm:Pb F W mb)(X:Pb F W gb)(hwm:tk.v.ownBlock≠some mb)(hwg:tk.v.ownBlock≠some gb)(a n:Int)(h1:53248<=a)(h2:a<=57343)(hn:0<=n/\n<=255)(k:Nat)(hk:Int.tmod a 32=k)(hk24:k<24)(hl:tk.l.length<=1000000000):Calls prog 150 #[.int .u16 a,.int .u8 n,pt mb 0,pt gb 0] W λe w'=>e=.returned (.tuple #[])/\jQ F W w' { M with s:=M.s.put k n } tk [⟨M.clock,k,n⟩]:=by
 have HPB:=hid (And.intro hm X);have Z:Hid (mb≠F.g/\gb≠F.g):=hid ⟨hm.ne,X.ne⟩;have HWB:Hid ((∀ e:tk.v.ownBlock=some mb,False)/\(∀ e:tk.v.ownBlock=some gb,False)):=hid ⟨λe=>hwm e,λe=>hwg e⟩;obtain⟨y1,e1,_⟩:=hm;have hg:=h.bx.z;have hs:=h.fit.s;have hk2:(k:Int)<24:=by omega
 have H:=hid h;clear h X hwm hwg;go_enter func150,ntmps150;go_upto_region 9 with(go_at_call 88;refine(Gm.reg3 a _ h1 h2).mono ?_;rintro e w1 ⟨rfl,rfl⟩)
 go_cut [] (λY=>Gd F Y { M with s:=M.s.put k n } tk/\Gt F W Y)
 case first =>
  refine wp_region_held_drew (S:=λw'=>w'.cell? ⟨mb,0,none⟩=some (pt F.g 0)) (by kernel_rfl) (e1) ?_;intro m;refine A 0 m ?_;refine A 1 m ?_;refine A 2 m ?_;refine A 3 m ?_;refine A 5 m ?_;refine A 6 m ?_;refine dQ 4 (λK c=>?_);refine zd4 U 36 _ U F.g 45 U (dA M.s) _ H.out.drew.sndR underlying36 U kJ ?_;refine eP c m (λ_=>?_);clear c K;refine dQ 7 (λK c=>?_);unfold dA;go_simp;go_at_call 151
  refine(ztL M.s k n _ hk24 hs hn).mono ?_;rintro e w2 ⟨rfl,hb2⟩;try go_wp2_with fail
  have HB2:=hid (H.out.drew.kept hb2);have HL2:=hid (bn (J W).drew hb2);have P:w2.cell? ⟨mb,0,none⟩=some (pt F.g 0):=(hb2.cell (p:=⟨mb,0,none⟩) y1).trans m;refine eP c P (λ_=>?_);clear c K m;refine A 8 P ?_;refine A 9 P ?_;refine dQ 10 (λK c=>?_);refine lW U 36 _ _ U F.g 45 (dA (M.s.put k n)).toArray U U (Bx.there HB2.out.bx 45 16 (by rw[Gx.len];omega)) kJ (jP (M.s.put k n)) ?_;refine c.out _ _ ((am (fO Z.out.1 _ _ _)).trans P) (λ_=>?_);clear c K;refine wpAnyH_done (by kernel_rfl) ?_ _;have hf:Mach.fit { M with s:=M.s.put k n }:=Mach.fit.of H.out.fit { H.out.fit with main:=H.out.fit.main,s:=Sd.put_ok H.out.fit.s k n hn } ⟨U,U,U,U,U⟩ (Sd.put_w _ _ _) ⟨U,U,U⟩ ⟨U,U⟩ (Or.inl U);have hp:=HB2.out.puts (M':={ M with s:=M.s.put k n }) (tk':=tk) 45 (dA (M.s.put k n)) (by simp[dA]) (F.putSnd M tk _) ⟨U,U,U,U,U⟩ hf;have ht:=Gt.sets H.out.nd (dA (M.s.put k n)) 45 _ (Gt.under H.out HL2.out);try go_simp
  rename_i hM _ _ _;refine hM _ _ ?_;go_meet;exact⟨hp,ht⟩
 case rest =>
 obtain⟨hY1,R⟩:=hcut;have E:=hid hY1;have T:=hid R;have HM:=hid (HPB.out.1.moved R);have HG:=hid (HPB.out.2.moved R);have z1:=HM.out.1;have q1:=HM.out.2.1;have z2:=HG.out.1;have q2:=HG.out.2.1;have zg:=E.out.bx.z;obtain⟨ua,uc,hv⟩:=zt0 E.out;have q3:wc.cell? ⟨F.g,75,none⟩=some (.slice ua tk.l.length uc):=(E.out.at 75 tk.v U).trans (by rw[hv]);have q4:wc.cell? ⟨F.g,72,none⟩=some (.int .i64 M.clock):=E.out.at 72 _ U;have L:=hid ((E.out.over (.cells #[.int .i64 M.clock,.int .i64 k,.int .u8 n] 104)).drew);have HU:Hid (((wc.alloc (.cells #[.int .i64 M.clock,.int .i64 k,.int .u8 n] 104)).drew).ownsRow F.B 104 3 (.slice ua tk.l.length uc) tk.l.length (kv tk.l)):=hv ▸ L.out.ws;have HN:Hid (∀ j u,([.int .i64 M.clock,.int .i64 k,.int .u8 n]:List Value)[j]?=some u->((wc.alloc (.cells #[.int .i64 M.clock,.int .i64 k,.int .u8 n] 104)).drew).cell? ((⟨wc.heap.size,0,none⟩:Addr).add j)=some u):=World.news_of_block (cs:=#[.int .i64 M.clock,.int .i64 k,.int .u8 n]) (t:=104) (fr:=(0,0)) (aJ wc _)
 have HO:Hid (∀ u∈([.int .i64 M.clock,.int .i64 k,.int .u8 n]:List Value),u.oneCell'=true):=by intro u hu;simp at hu;rcases hu with rfl|rfl|rfl <;> rfl
 have HZ:Hid (F.B<=((wc.alloc (.cells #[.int .i64 M.clock,.int .i64 k,.int .u8 n] 104)).drew).heap.size):=L.out.big;have H63:Hid (tk.l.length+1<=maxLen):=by show _<=_;unfold maxLen;omega
 have HBY:Hid ((tk.l.length+1)*24<=140737488355328):=by show _<=_;omega
 have r:∀ x,x<((wc.alloc (.cells #[.int .i64 M.clock,.int .i64 k,.int .u8 n] 104)).drew).heap.size->(∀ e:tk.v.ownBlock=some x,False)->∀ b:World,((wc.alloc (.cells #[.int .i64 M.clock,.int .i64 k,.int .u8 n] 104)).drew).grownBy b (Value.slice ua tk.l.length uc).ownBlock->b.heap[x]?=((wc.alloc (.cells #[.int .i64 M.clock,.int .i64 k,.int .u8 n] 104)).drew).heap[x]?:=λx hx hne b i=>i.block x hx (λe=>hne (by rw[hv];exact e.symm))
 have HGF:Hid (∀ b,((wc.alloc (.cells #[.int .i64 M.clock,.int .i64 k,.int .u8 n] 104)).drew).grownBy b (Value.slice ua tk.l.length uc).ownBlock->b.frozen? ⟨F.g,75,none⟩=false/\F.g<b.heap.size/\b.cell? ⟨F.g,75,none⟩=some (.slice ua tk.l.length uc)):=λb i=>by
  have hx:=L.out.bx.same i.size (r F.g L.out.bx.z (λe=>(L.out.wd F.g e).1 (Or.inl U)) b i);exact⟨hx.f 75,hx.z,(hx.at 75 tk.v U).trans (by rw[hv])⟩
 have HK:Hid (∀(V cp:Nat) (b:World),b.ownsRow F.B 104 3 (.slice (some ⟨V,0,none⟩) (tk.l.length+1) cp) (tk.l.length+1) (kv tk.l++[.int .i64 M.clock,.int .i64 k,.int .u8 n])->((wc.alloc (.cells #[.int .i64 M.clock,.int .i64 k,.int .u8 n] 104)).drew).grownBy b (Value.slice ua tk.l.length uc).ownBlock->((Value.slice ua tk.l.length uc).ownBlock=some V \/ V=wc.heap.size+1) ->
  jQ F W (b.setCell ⟨F.g,75,none⟩ (.slice (some ⟨V,0,none⟩) (tk.l.length+1) cp)) { M with s:=M.s.put k n } tk [⟨M.clock,k,n⟩]):=λV cp b hown i I=>by
  rw[<- hv] at i I;obtain⟨x1,x2⟩:=L.out.wrote (x:=⟨M.clock,k,n⟩) i hown (I.imp id (λe=>by rw[e];show _=(wc.alloc _).heap.size;simp));refine⟨⟨_,x1⟩,(T.out.w.trans (Gw.of_below E.out.big ((stA (J wc) _).drew))).trans x2,λh0 j hj hT=>?_⟩;have a1:=T.out.block j hj hT;have a2:=((stA (J wc) (.cells #[.int .i64 M.clock,.int .i64 k,.int .u8 n] 104)).drew).block j (ap hj (Mv.size T.out));have a3:=i.block j (ap (ap hj (Mv.size T.out)) ((stA (J wc) _).drew).size) (by rw[h0];exact λe=>by cases e);exact((dy (λe=>hT (Or.inl e))).trans a3).trans (a2.trans a1)
 obtain⟨i1,hj0,hy0,hy1,hy2⟩:=info_parts zhe;have HSZ:Hid (((wc.alloc (.cells #[.int .i64 M.clock,.int .i64 k,.int .u8 n] 104)).drew).heap.size=wc.heap.size+1):=by show _=_;simp
 have N:Hid (((wc.alloc (.cells #[.int .i64 M.clock,.int .i64 k,.int .u8 n] 104)).drew).cell? ⟨mb,0,none⟩=some (pt F.g 0)/\((wc.alloc (.cells #[.int .i64 M.clock,.int .i64 k,.int .u8 n] 104)).drew).cell? ⟨gb,0,none⟩=some (pt F.g 0)/\((wc.alloc (.cells #[.int .i64 M.clock,.int .i64 k,.int .u8 n] 104)).drew).cell? ⟨F.g,72,none⟩=some (.int .i64 M.clock)):=⟨((HM.out.kept ((stA (J wc) _).drew)).2.1),((HG.out.kept ((stA (J wc) _).drew)).2.1),L.out.at 72 _ U⟩
 have HQ5:Hid (((wc.alloc (.cells #[.int .i64 M.clock,.int .i64 k,.int .u8 n] 104)).drew).cell? ⟨F.g,75,none⟩=some (.slice ua tk.l.length uc)/\F.g<((wc.alloc (.cells #[.int .i64 M.clock,.int .i64 k,.int .u8 n] 104)).drew).heap.size):=⟨(L.out.at 75 tk.v U).trans (by rw[hv]),L.out.bx.z⟩
 have HS3:Hid (∀ b:World,((wc.alloc (.cells #[.int .i64 M.clock,.int .i64 k,.int .u8 n] 104)).drew).grownBy b (Value.slice ua tk.l.length uc).ownBlock->b.cell? ⟨mb,0,none⟩=some (pt F.g 0)/\b.cell? ⟨gb,0,none⟩=some (pt F.g 0)/\b.cell? ⟨F.g,72,none⟩=some (.int .i64 M.clock)):=λb i =>
  ⟨(am (r mb (ap z1 ((stA (J wc) _).drew).size) HWB.out.1 b i)).trans N.out.1,(am (r gb (ap z2 ((stA (J wc) _).drew).size) HWB.out.2 b i)).trans N.out.2.1,(am (r _ L.out.bx.z (λe=>(L.out.wd _ e).1 (Or.inl U)) b i)).trans (L.out.at 72 _ U)⟩
 have HS4:Hid (∀(b:World) (v:Value),(b.cell? ⟨mb,0,none⟩=some (pt F.g 0)/\b.cell? ⟨gb,0,none⟩=some (pt F.g 0)/\b.cell? ⟨F.g,72,none⟩=some (.int .i64 M.clock))->(b.setCell ⟨F.g,75,none⟩ v).cell? ⟨mb,0,none⟩=some (pt F.g 0)/\(b.setCell ⟨F.g,75,none⟩ v).cell? ⟨gb,0,none⟩=some (pt F.g 0)/\(b.setCell ⟨F.g,75,none⟩ v).cell? ⟨F.g,72,none⟩=some (.int .i64 M.clock)):=λb v h=>⟨(am (dy Z.out.1)).trans h.1,(am (dy Z.out.2)).trans h.2.1,(az _ _ _ _ (by simp)).trans h.2.2⟩
 clear hY1 R hv hl r;go_wp2;refine wp_region_held_drew (S:=λw'=>w'.cell? ⟨mb,0,none⟩=some (pt F.g 0)/\w'.cell? ⟨gb,0,none⟩=some (pt F.g 0)/\w'.cell? ⟨F.g,72,none⟩=some (.int .i64 M.clock)) (by kernel_rfl) (⟨q1,q2,q4⟩) ?_;intro m;refine A 0 m ?_;refine A 1 m ?_;refine A 2 m ?_;refine A 3 m ?_;refine A 5 m ?_;refine A 6 m ?_;refine A 7 m ?_;refine A 8 m ?_;refine A 9 m ?_;refine A 10 m ?_;refine A 11 m ?_;refine wpAnyH_ready (rs:=[4,12]) (by kernel_rfl) (by simp) ?_;refine AllReadyH.cons (o:=⟨some 57,_,_,_,_,none⟩) U (λK c=>?_) (AllReadyH.cons (o:=⟨some 65,_,_,_,_,none⟩) U (λK c=>?_) AllReadyH.nil)
 ·go_simp
  refine eP c m (λ_=>?_);clear c K;refine dQ 12 (λK c=>?_);go_simp;refine eP c N.out (λ_=>?_);clear c K;refine dQ 13 (λK c=>?_);refine step_append_lies _ (by rfl) (.tmp 57) (.tmp 65) 45 (by rfl) F.B 104 i1 _ 3 24 underlying45 hj0 hy0 hy1 hy2 U (by omega) (.slice ua tk.l.length uc) tk.l.length (kv tk.l) U HU.out ⟨wc.heap.size,0,none⟩ 1 1 [.int .i64 M.clock,.int .i64 k,.int .u8 n] U U HN.out HO.out (by omega) H63.out HBY.out HZ.out (wc.heap.size+1) HSZ.out ?_;intro V cp b y d I hlt3;have q:=HS3.out b d;refine eP c q (λ_=>?_);clear c K;refine A 14 q ?_;refine A 15 q ?_;refine dQ 16 (λK c=>?_);obtain⟨f3,z3,d3⟩:=HGF.out b d;go_simp;refine c.out _ _ (HS4.out b _ q) (λ_=>?_);clear c K;refine wpAnyH_done (by kernel_rfl) ?_ _;go_simp;go_wp2;go_end0;exact⟨U,HK.out V cp b y d I⟩
 ·go_simp
  refine eP c N.out (λ_=>?_);clear c K;refine dQ 4 (λK c=>?_);have q5:=HQ5.out;go_simp;refine eP c N.out (λ_=>?_);clear c K q5;refine dQ 13 (λK c=>?_);refine step_append_lies _ (by rfl) (.tmp 57) (.tmp 65) 45 (by rfl) F.B 104 i1 _ 3 24 underlying45 hj0 hy0 hy1 hy2 U (by omega) (.slice ua tk.l.length uc) tk.l.length (kv tk.l) U HU.out ⟨wc.heap.size,0,none⟩ 1 1 [.int .i64 M.clock,.int .i64 k,.int .u8 n] U U HN.out HO.out (by omega) H63.out HBY.out HZ.out (wc.heap.size+1) HSZ.out ?_;intro V cp b y d I hlt3;have q:=HS3.out b d;refine eP c q (λ_=>?_);clear c K;refine A 14 q ?_;refine A 15 q ?_;refine dQ 16 (λK c=>?_);obtain⟨f3,z3,d3⟩:=HGF.out b d;go_simp;refine c.out _ _ (HS4.out b _ q) (λ_=>?_);clear c K;refine wpAnyH_done (by kernel_rfl) ?_ _;go_simp;go_wp2;go_end0;exact⟨U,HK.out V cp b y d I⟩
theorem Gm.putA(h:Gd F W M tk)(d:Pb F W mb)(i:Pb F W gb)(j:tk.v.ownBlock≠some mb)(m:tk.v.ownBlock≠some gb)(a n:Int)(p:0<=a/\a<=65535)(f:0<=n/\n<=255)(q:tk.l.length<=1000000000):Calls prog 150 #[.int .u16 a,.int .u8 n,pt mb 0,pt gb 0] W λe w'=>e=.returned (.tuple #[])/\jQ F W w' (M.wrA a n) tk (M.shA a n):=by
 unfold Mach.wrA Mach.shA;by_cases hp:cu a=true
 ·rw[Q hp,Q hp]
  have b:53248<=a/\a<=57343:=by unfold cu at hp;simpa using hp
  have r:Int.tmod a 32=a%32:=aq (by omega);have hb:portNo a<32:=by unfold portNo;omega
  have o:Int.tmod a 32=((portNo a:Nat):Int):=by rw[r];unfold portNo;omega
  generalize portNo a=k at *;unfold Mach.putA shown;by_cases e:k<24
  ·rw[Q e,Q e]
   exact Gm.auxPs h d i j m a n b.1 b.2 f k o e q
  rw[G e,G e];by_cases e2:k=24
  ·rw[Q e2]
   exact Gm.auxP24 h d a n b.1 b.2 f (by rw[o,e2];rfl)
  rw[G e2];exact Gm.auxPd h a n b.1 b.2 k o (by omega) (by omega) (by simp;omega)
 ·rw[G hp,G hp]
  have b:¬ (53248<=a/\a<=57343):=by unfold cu at hp;simpa using hp
  unfold Mach.memA;by_cases h1:a<32768
  ·rw[Q h1]
   exact Gm.auxN0 h a n p.1 h1
  rw[G h1];by_cases h2:a<49152
  ·rw[Q h2]
   exact Gm.auxN1 h d a n (by omega) h2 f
  rw[G h2];by_cases h3:a<53248
  ·rw[Q h3]
   cases c:M.granted
   ·have g:=Gm.auxN3 (gb:=gb) h d a n (by omega) h3 c
    simp only[bK,dt];exact g
   ·have g:=Gm.auxN2 (gb:=gb) h d a n (by omega) h3 f c
    rw[c] at g;simp only[dL];exact g
  rw[G h3];exact Gm.auxN4 h a n (by omega) p.2
end
section
variable {F : Gx} {W : World} {M M' : Mach} {tk : Tk} {mb hb lb gb : Nat}
theorem ib{e:Ending}{w':World}{t:Int}(h:e=.returned (.tuple #[])/\Gd F w' M' tk/\Gt F W w')(a:t=0):e=.returned (.tuple #[])/\Gd F w' M' (tk.add t)/\Gt F W w':=by rw[a,Tk.add_zero];exact h
theorem Gm.putM(h:Gd F W M tk)(d:Pu F W mb hb lb gb)(a n:Int)(u:0<=a/\a<=65535)(f:0<=n/\n<=255)(l:0<=tk.n/\tk.n<=1000000000000):Calls prog 94 #[.int .u16 a,.int .u8 n,pt mb 0,pt hb 0,pt lb 0,pt gb 0] W λe w'=>e=.returned (.tuple #[])/\Gd F w' (M.wrM a n) (tk.add (ia a n))/\Gt F W w':=by
 unfold Mach.wrM ia;by_cases hp:cu a=true
 ·rw[Q hp,Q hp]
  have c:53248<=a/\a<=57343:=by unfold cu at hp;simpa using hp
  have w:Int.tmod a 32=a%32:=aq (by omega);have v:portNo a<32:=by unfold portNo;omega
  have g:Int.tmod a 32=((portNo a:Nat):Int):=by rw[w];unfold portNo;omega
  generalize portNo a=k at *;by_cases j:k=14
  ·subst j;exact Gm.putP14 h d a n c.1 c.2 f g l
  have i:kU k n=0:=by unfold kU;rw[G j]
  by_cases x:k=0
  ·subst x;exact(Gm.putP0 h d a n c.1 c.2 f g).mono (λ_ _ b=>ib b i)
  by_cases e2:k=2
  ·subst e2;exact(Gm.putP2 h d a n c.1 c.2 f g).mono (λ_ _ b=>ib b i)
  by_cases e3:k=3
  ·subst e3;exact(Gm.putP3 h d a n c.1 c.2 f g).mono (λ_ _ b=>ib b i)
  by_cases e4:k=4
  ·subst e4;exact(Gm.putP4 h d a n c.1 c.2 f g).mono (λ_ _ b=>ib b i)
  by_cases y:k=8
  ·subst y;exact(Gm.putP8 h d a n c.1 c.2 f g).mono (λ_ _ b=>ib b i)
  by_cases o:k=10
  ·subst o;exact(Gm.putR h d a n c.1 c.2 f 10 _ g (by omega)).mono (λ_ _ b=>ib b i)
  by_cases p:k=11
  ·subst p;exact(Gm.putR h d a n c.1 c.2 f 11 _ g (by omega)).mono (λ_ _ b=>ib b i)
  by_cases q:k=12
  ·subst q;exact(Gm.putR h d a n c.1 c.2 f 12 _ g (by omega)).mono (λ_ _ b=>ib b i)
  by_cases r:k=13
  ·subst r;exact(Gm.putR h d a n c.1 c.2 f 13 _ g (by omega)).mono (λ_ _ b=>ib b i)
  by_cases s:k=16
  ·subst s;exact(Gm.putP16 h d a n c.1 c.2 f g).mono (λ_ _ b=>ib b i)
  by_cases t:k=17
  ·subst t;exact(Gm.putP17 h d a n c.1 c.2 f g).mono (λ_ _ b=>ib b i)
  have z:M.putM k n=M:=by
   unfold Mach.putM;split <;> first|rfl|(exfalso;omega)
  rw[z];exact(Gm.putPd h d a n c.1 c.2 f k g (by omega) (by omega) (by simp;omega) (by simp;omega) (by simp;omega) (by simp;omega) (by simp;omega) (by simp;omega) (by simp;omega) (by simp;omega) (by simp;omega) (by simp;omega) (by simp;omega) (by simp;omega)).mono (λ_ _ b=>ib b i)
 ·rw[G hp,G hp]
  have c:¬ (53248<=a/\a<=57343):=by unfold cu at hp;simpa using hp
  unfold Mach.memM;by_cases h1:a<32768
  ·rw[Q h1]
   exact(Gm.putN0 h a n u.1 h1).mono (λ_ _ b=>ib b U)
  rw[G h1];by_cases h2:a<49152
  ·rw[Q h2]
   exact(Gm.putN1 h d.m a n (by omega) h2 f).mono (λ_ _ b=>ib b U)
  rw[G h2];by_cases h3:a<53248
  ·rw[Q h3]
   exact(Gm.putN2 h d.m a n (by omega) h3 f).mono (λ_ _ b=>ib b U)
  rw[G h3];exact(Gm.putN4 h a n (by omega) u.2).mono (λ_ _ b=>ib b U)
end
end Go.Proofs.YthghjlinhokimaaGreatDoor
