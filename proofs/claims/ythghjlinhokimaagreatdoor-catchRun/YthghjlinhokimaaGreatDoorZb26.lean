/-
  Parts of a proof, joined.
-/
import Derived.Test.YthghjlinhokimaaGreatDoorZbA
import Derived.Test.YthghjlinhokimaaGreatDoorZb22
import Derived.Test.YthghjlinhokimaaGreatDoorZb21
import Derived.Test.YthghjlinhokimaaGreatDoorZb23
import Derived.Test.YthghjlinhokimaaGreatDoorZb24
set_option linter.all false
set_option maxRecDepth 100000
set_option maxHeartbeats 3200000
open Option renaming none->G,some->A
open Go renaming World->u,Value->π,Calls->Δ
open Bool renaming false->ξ,true->Γ
open Go.Proofs.Tryz renaming prog->ω
open Go.Act renaming put->ag
open Or renaming inl->aj,inr->ao
open Int renaming tmod->bl,tdiv->gB
open Go.RowKit renaming Hid->bG
open Go.Value renaming slice->κ,int->J,bool->ν,tuple->Ψ
open Go.IntKind renaming signed->cP,wrap->dB,bits->dC,i64->Q,u16->Y,u8->au
open Go.Ending renaming returned->μ
open Go.Obj renaming cells->χ
namespace Go.Proofs.YthghjlinhokimaaGreatDoor
open Go.ChangeShapes Go.WideShapes Go.ChangeAt Go.RowKit Go.Proofs.Tryz
section
variable {F : Gx} {W : u} {M : Mach} {tk : Tk} {mb hb lb gb : Nat}
theorem Gx.putAux(F:Gx)(M:Mach)(tk:Tk)(c:C.Cpu):kr (F.cells M tk) 15 (bY c)=F.cells { M with aux:=c } tk:=by
 unfold Gx.cells υ;simp only[bK];exact tJ _ (bY c) (bY M.aux) (bY M.main) D
theorem Gx.putMain(F:Gx)(M:Mach)(tk:Tk)(c:C.Cpu):kr (F.cells M tk) 0 (bY c)=F.cells { M with main:=c } tk:=by
 unfold Gx.cells υ;rw[bK];exact tJ _ (bY c) (bY M.main) [] D
theorem Gm.putP16f(h:Gd F W M tk)(d:Pu F W mb hb lb gb)(a n:Int)(h1:53248<=a)(h2:a<=57343)(v:0<=n/\n<=255)(hk:bl a 32=16)(w:M.held=ξ):Δ ω 94 #[J Y a,J au n,pt mb 0,pt hb 0,pt lb 0,pt gb 0] W λe w'=>e=μ (Ψ #[])/\Gd F w' (M.putM 16 n) tk/\Gt F W w':=by
 obtain⟨N,e1,x1⟩:=d.m;have c:bG (mb≠F.g/\gb≠F.g):=hid ⟨d.m.ne,d.g.ne⟩;have i:=hid d;have x:=h.at 67 (ν M.granted) D;have j:=h.at 68 (ν M.held) D;rw[w] at j;have P:=h.bx.f;have R:=h.bx.z;obtain⟨r,q1,r0,r1⟩:∃ r,bl n 2=r/\0<=r/\r<=1:=⟨_,D,by rw[ak v.1];omega⟩
 have T:bG (et n=(r == 1)):=hid (by rw[<- q1,ak v.1];rfl);obtain⟨m,y,k,U⟩:∃ m,gB n 2=m/\0<=m/\m<=127:=⟨_,D,by rw[aF v.1];omega⟩
 have V:IntKind.u8.wrap m=m:=by simp[dB,dC,cP] <;> omega
 have l:m=n/2:=by rw[<- y,aF v.1]
 obtain⟨z,X,z0,z1⟩:∃ z,bl m 2=z/\0<=z/\z<=1:=⟨_,D,by rw[ak k];omega⟩
 have Z:bG (et (n/2)=(z == 1)):=hid (by rw[<- X,ak k,l];rfl);have EL:bG (M.putM 16 n=M.grant n):=hid (by show M.letGo n=_;unfold Mach.letGo;rw[w];rfl);have H:=hid h;have HH:=hid w;clear h d w l;go_enter func94,ntmps94;go_wp2_with (go_at_call 88;refine(Gm.reg3 a _ h1 h2).mono ?_;rintro e w1 ⟨rfl,rfl⟩)
 refine wp_region_held_drew (S:=λw'=>w'.cell? ⟨mb,0,G⟩=A (pt F.g 0)/\w'.cell? ⟨gb,0,G⟩=A (pt F.g 0)) (by kernel_rfl) (⟨e1,i.out.g.2.1⟩) ?_;intro b;refine bH 0 b ?_;refine bH 1 b ?_;refine bH 2 b ?_;refine bH 3 b ?_;refine bH 4 b ?_;refine bH 5 b ?_;refine bH 6 b ?_;refine bH 7 b ?_;refine bH 8 b ?_;refine bH 9 b ?_;refine bH 10 b ?_;refine gy 11 (λK o=>?_);go_simp;refine gL o (⟨(Φ (f8 c.out.1)).trans b.1,(Φ (f8 c.out.2)).trans b.2⟩) (λ_=>?_);clear o K;have p:(W.drew.setCell ⟨F.g,67,G⟩ (ν (r == 1))).cell? ⟨mb,0,G⟩=A (pt F.g 0)/\(W.drew.setCell ⟨F.g,67,G⟩ (ν (r == 1))).cell? ⟨gb,0,G⟩=A (pt F.g 0):=⟨(Φ (f8 c.out.1)).trans b.1,(Φ (f8 c.out.2)).trans b.2⟩
 clear b;have b:=p;clear p;refine bH 12 b ?_;refine bH 13 b ?_;refine gy 14 (λK o=>?_);go_simp;refine gL o (⟨(Φ (f8 c.out.1)).trans b.1,(Φ (f8 c.out.2)).trans b.2⟩) (λ_=>?_);clear o K;refine wpAnyH_done (by kernel_rfl) ?_ _;have hp:Gd F ((W.drew.setCell ⟨F.g,67,G⟩ (ν (r == 1))).setCell ⟨F.g,68,G⟩ (ν (z == 1))) (M.grant n) tk:=by
  have L:=(H.out.drew.put (M':={ M with granted:=et n }) (tk':=tk) 67 (ν (et n)) (by omega) D ⟨D,D,D,D,D⟩ { H.out.fit with main:=H.out.fit.main }).put (M':=M.grant n) (tk':=tk) 68 (ν (et (n/2))) (by omega) D ⟨D,D,D,D,D⟩ (show Mach.fit { M with granted:=et n,held:=et (n/2) } from { H.out.fit with main:=H.out.fit.main });rw[T.out,Z.out] at L;exact L
 have B:=Gt.set H.out.nd (Gt.set H.out.nd (Mv.drew (Gt.refl F W)) 67 (ν (r == 1))) 68 (ν (z == 1));refine Pl.cutE (λι=>Gd F ι (M.grant n) tk/\Gt F W ι/\Pu F ι mb hb lb gb) ⟨hp,B,i.out.moved B⟩ ?_;rintro ι ⟨q,s,t⟩;have E:=hid q;have I:=hid s;have HY3:=hid t;clear q s t hp B b x j P R e1 N;go_wp2;go_end0;rw[EL.out];exact⟨D,E.out,I.out⟩
theorem Gm.putP16t(h:Gd F W M tk)(d:Pu F W mb hb lb gb)(a n:Int)(h1:53248<=a)(h2:a<=57343)(t:0<=n/\n<=255)(hk:bl a 32=16)(v:M.held=Γ)(w:n/2%2=1):Δ ω 94 #[J Y a,J au n,pt mb 0,pt hb 0,pt lb 0,pt gb 0] W λe w'=>e=μ (Ψ #[])/\Gd F w' (M.putM 16 n) tk/\Gt F W w':=by
 obtain⟨R,e1,x1⟩:=d.m;have c:bG (mb≠F.g/\gb≠F.g):=hid ⟨d.m.ne,d.g.ne⟩;have i:=hid d;have x:=h.at 67 (ν M.granted) D;have j:=h.at 68 (ν M.held) D;rw[v] at j;have T:=h.bx.f;have U:=h.bx.z;obtain⟨r,q1,r0,r1⟩:∃ r,bl n 2=r/\0<=r/\r<=1:=⟨_,D,by rw[ak t.1];omega⟩
 have V:bG (et n=(r == 1)):=hid (by rw[<- q1,ak t.1];rfl);obtain⟨m,y,B,X⟩:∃ m,gB n 2=m/\0<=m/\m<=127:=⟨_,D,by rw[aF t.1];omega⟩
 have Z:IntKind.u8.wrap m=m:=by simp[dB,dC,cP] <;> omega
 have k:m=n/2:=by rw[<- y,aF t.1]
 have q2:bl m 2=1:=by rw[ak B,k];exact w
 have N:bG (et (n/2)=Γ):=hid (by unfold et;rw[w];rfl);have EL:bG (M.putM 16 n=M.grant n):=hid (by show M.letGo n=_;unfold Mach.letGo;rw[v,N.out];rfl);have H:=hid h;have HH:=hid v;clear h d v k w;go_enter func94,ntmps94;go_wp2_with (go_at_call 88;refine(Gm.reg3 a _ h1 h2).mono ?_;rintro e w1 ⟨rfl,rfl⟩)
 refine wp_region_held_drew (S:=λw'=>w'.cell? ⟨mb,0,G⟩=A (pt F.g 0)/\w'.cell? ⟨gb,0,G⟩=A (pt F.g 0)) (by kernel_rfl) (⟨e1,i.out.g.2.1⟩) ?_;intro b;refine bH 0 b ?_;refine bH 1 b ?_;refine bH 2 b ?_;refine bH 3 b ?_;refine bH 4 b ?_;refine bH 5 b ?_;refine bH 6 b ?_;refine bH 7 b ?_;refine bH 8 b ?_;refine bH 9 b ?_;refine bH 10 b ?_;refine gy 11 (λK l=>?_);go_simp;refine gL l (⟨(Φ (f8 c.out.1)).trans b.1,(Φ (f8 c.out.2)).trans b.2⟩) (λ_=>?_);clear l K;have o:(W.drew.setCell ⟨F.g,67,G⟩ (ν (r == 1))).cell? ⟨mb,0,G⟩=A (pt F.g 0)/\(W.drew.setCell ⟨F.g,67,G⟩ (ν (r == 1))).cell? ⟨gb,0,G⟩=A (pt F.g 0):=⟨(Φ (f8 c.out.1)).trans b.1,(Φ (f8 c.out.2)).trans b.2⟩
 clear b;have b:=o;clear o;refine bH 12 b ?_;refine bH 13 b ?_;refine gy 14 (λK l=>?_);go_simp;refine gL l (⟨(Φ (f8 c.out.1)).trans b.1,(Φ (f8 c.out.2)).trans b.2⟩) (λ_=>?_);clear l K;refine wpAnyH_done (by kernel_rfl) ?_ _;have hp:Gd F ((W.drew.setCell ⟨F.g,67,G⟩ (ν (r == 1))).setCell ⟨F.g,68,G⟩ (ν Γ)) (M.grant n) tk:=by
  have P:=(H.out.drew.put (M':={ M with granted:=et n }) (tk':=tk) 67 (ν (et n)) (by omega) D ⟨D,D,D,D,D⟩ { H.out.fit with main:=H.out.fit.main }).put (M':=M.grant n) (tk':=tk) 68 (ν (et (n/2))) (by omega) D ⟨D,D,D,D,D⟩ (show Mach.fit { M with granted:=et n,held:=et (n/2) } from { H.out.fit with main:=H.out.fit.main });rw[V.out,N.out] at P;exact P
 have E:=Gt.set H.out.nd (Gt.set H.out.nd (Mv.drew (Gt.refl F W)) 67 (ν (r == 1))) 68 (ν Γ);refine Pl.cutE (λι=>Gd F ι (M.grant n) tk/\Gt F W ι/\Pu F ι mb hb lb gb) ⟨hp,E,i.out.moved E⟩ ?_;rintro ι ⟨p,q,s⟩;have I:=hid p;have L:=hid q;have HY3:=hid s;clear p q s hp E b x j T U e1 R;go_wp2;go_end0;rw[EL.out];exact⟨D,I.out,L.out⟩
theorem Gm.putP16g(h:Gd F W M tk)(L:Pu F W mb hb lb gb)(a n:Int)(h1:53248<=a)(h2:a<=57343)(hn:0<=n/\n<=255)(hk:bl a 32=16)(hh:M.held=Γ)(hs:n/2%2=0):Δ ω 94 #[J Y a,J au n,pt mb 0,pt hb 0,pt lb 0,pt gb 0] W λe w'=>e=μ (Ψ #[])/\Gd F w' (M.putM 16 n) tk/\Gt F W w':=by
 obtain⟨N,e1,x1⟩:=L.m;have c:bG (mb≠F.g/\gb≠F.g):=hid ⟨L.m.ne,L.g.ne⟩;have o:=hid L;have c67:=h.at 67 (ν M.granted) D;have P:=h.at 68 (ν M.held) D;rw[hh] at P;have ff:=h.bx.f;have hg:=h.bx.z;obtain⟨r,q1,r0,r1⟩:∃ r,bl n 2=r/\0<=r/\r<=1:=⟨_,D,by rw[ak hn.1];omega⟩
 have E1:bG (et n=(r == 1)):=hid (by rw[<- q1,ak hn.1];rfl);obtain⟨m,hmq,hm0,hm1⟩:∃ m,gB n 2=m/\0<=m/\m<=127:=⟨_,D,by rw[aF hn.1];omega⟩
 have hwm:IntKind.u8.wrap m=m:=by simp[dB,dC,cP] <;> omega
 have R:m=n/2:=by rw[<- hmq,aF hn.1]
 have q2:bl m 2=0:=by rw[ak hm0,R];exact hs
 have E2:bG (et (n/2)=ξ):=hid (by unfold et;rw[hs];rfl);have EL:bG (M.putM 16 n={ M.grant n with aux:=gM ((M.grant n).lookA 0) ((M.grant n).lookA 1),aready:=M.clock }):=hid (by show M.letGo n=_;unfold Mach.letGo;rw[hh,E2.out];rfl);have H:=hid h;have HH:=hid hh;clear h L hh R hs;go_enter func94,ntmps94;go_wp2_with (go_at_call 88;refine(Gm.reg3 a _ h1 h2).mono ?_;rintro e w1 ⟨rfl,rfl⟩)
 refine wp_region_held_drew (S:=λw'=>w'.cell? ⟨mb,0,G⟩=A (pt F.g 0)/\w'.cell? ⟨gb,0,G⟩=A (pt F.g 0)) (by kernel_rfl) (⟨e1,o.out.g.2.1⟩) ?_;intro b;refine bH 0 b ?_;refine bH 1 b ?_;refine bH 2 b ?_;refine bH 3 b ?_;refine bH 4 b ?_;refine bH 5 b ?_;refine bH 6 b ?_;refine bH 7 b ?_;refine bH 8 b ?_;refine bH 9 b ?_;refine bH 10 b ?_;refine gy 11 (λK d=>?_);go_simp;refine gL d (⟨(Φ (f8 c.out.1)).trans b.1,(Φ (f8 c.out.2)).trans b.2⟩) (λ_=>?_);clear d K;have T:(W.drew.setCell ⟨F.g,67,G⟩ (ν (r == 1))).cell? ⟨mb,0,G⟩=A (pt F.g 0)/\(W.drew.setCell ⟨F.g,67,G⟩ (ν (r == 1))).cell? ⟨gb,0,G⟩=A (pt F.g 0):=⟨(Φ (f8 c.out.1)).trans b.1,(Φ (f8 c.out.2)).trans b.2⟩
 clear b;have b:=T;clear T;refine bH 12 b ?_;refine bH 13 b ?_;refine gy 14 (λK d=>?_);go_simp;refine gL d (⟨(Φ (f8 c.out.1)).trans b.1,(Φ (f8 c.out.2)).trans b.2⟩) (λ_=>?_);clear d K;refine wpAnyH_done (by kernel_rfl) ?_ _;have hp:Gd F ((W.drew.setCell ⟨F.g,67,G⟩ (ν (r == 1))).setCell ⟨F.g,68,G⟩ (ν ξ)) (M.grant n) tk:=by
  have hx:=(H.out.drew.put (M':={ M with granted:=et n }) (tk':=tk) 67 (ν (et n)) (by omega) D ⟨D,D,D,D,D⟩ { H.out.fit with main:=H.out.fit.main }).put (M':=M.grant n) (tk':=tk) 68 (ν (et (n/2))) (by omega) D ⟨D,D,D,D,D⟩ (show Mach.fit { M with granted:=et n,held:=et (n/2) } from { H.out.fit with main:=H.out.fit.main });rw[E1.out,E2.out] at hx;exact hx
 have I:=Gt.set H.out.nd (Gt.set H.out.nd (Mv.drew (Gt.refl F W)) 67 (ν (r == 1))) 68 (ν ξ);refine Pl.cutE (λι=>Gd F ι (M.grant n) tk/\Gt F W ι/\Pu F ι mb hb lb gb) ⟨hp,I,o.out.moved I⟩ ?_;rintro ι ⟨U,X,Z⟩;have j:=hid U;have HY2:=hid X;have q:=hid Z;clear U X Z hp I b c67 P ff hg e1 N;generalize hG:M.grant n=ε at *;have HCL:bG (M.clock=ε.clock):=hid (by rw[<- hG];rfl);have e1:=q.out.m.2.1;have e2:=q.out.g.2.1;have N:=q.out.m.1;have y2:=q.out.g.1;have yg:=j.out.bx.z;clear hG E1 E2 H HH;go_wp2;refine wp_region_held_drew (S:=λw'=>w'.cell? ⟨mb,0,G⟩=A (pt F.g 0)/\w'.cell? ⟨gb,0,G⟩=A (pt F.g 0)) (by kernel_rfl) (⟨e1,e2⟩) ?_;intro b;refine bH 0 b ?_;refine bH 1 b ?_;refine gy 2 (λK d=>?_);go_simp;go_at_call 74
 refine(zrG F.g _).mono ?_;rintro e w2 ⟨rfl,s,hv2⟩;have y:=hid (j.out.drew.kept s);have t:=hid (bw (aR ι).drew s);have HP2:=hid (AuxV.pb j.out.drew hv2);clear hv2;try go_wp2_with fail
 have B:w2.cell? ⟨mb,0,G⟩=A (pt F.g 0)/\w2.cell? ⟨gb,0,G⟩=A (pt F.g 0):=⟨(s.cell (p:=⟨mb,0,G⟩) N).trans b.1,(s.cell (p:=⟨gb,0,G⟩) y2).trans b.2⟩
 refine gL d (B) (λ_=>?_);clear d K;clear b;have b:=B;clear B;refine gy 3 (λK d=>?_);go_simp;go_at_call 48
 refine(zrH y.out HP2.out.2).mono ?_;rintro e w3 ⟨rfl,v⟩;have k:=hid (y.out.kept v);have HB3:=hid (bw t.out v);try go_wp2_with fail
 have E:w3.cell? ⟨mb,0,G⟩=A (pt F.g 0)/\w3.cell? ⟨gb,0,G⟩=A (pt F.g 0):=⟨(v.cell (p:=⟨mb,0,G⟩) (Θ N t.out.size)).trans b.1,(v.cell (p:=⟨gb,0,G⟩) (Θ y2 t.out.size)).trans b.2⟩
 refine gL d (E) (λ_=>?_);clear d K;clear b;have b:=E;clear E;refine bH 4 b ?_;refine bH 5 b ?_;refine tK (i:=6) (op:=⟨G,_,_,_,_,G⟩) (by kernel_rfl) D D 25 _ _ D F.g 15 (j5 (ε.lookA 0*256+ε.lookA 1)).toArray D D (k.out.bx.there 15 15 (by rw[F.len];omega)) sX (zu _) ⟨(Φ (ji c.out.1 _ _ _)).trans b.1,(Φ (ji c.out.2 _ _ _)).trans b.2⟩ ?_;refine wpAnyH_done (by kernel_rfl) ?_ _;have hp:=k.out.puts (M':={ ε with aux:=gM (ε.lookA 0) (ε.lookA 1) }) (tk':=tk) 15 (bY (gM (ε.lookA 0) (ε.lookA 1))) (by simp[bY]) (F.putAux ε tk _) ⟨D,D,D,D,D⟩ (Mach.fit.of k.out.fit { k.out.fit with main:=k.out.fit.main,aux:=AB _ _ (wu _ _) (wu _ _) } ⟨D,D,D,D,D⟩ D ⟨D,D,D⟩ ⟨D,D⟩ (aj D));have I:=Gt.sets j.out.nd (bY (gM (ε.lookA 0) (ε.lookA 1))) 15 _ (Mv.trans HY2.out (Gt.under j.out HB3.out));refine Pl.cutE (λV=>Gd F V { ε with aux:=gM (ε.lookA 0) (ε.lookA 1) } tk/\Gt F W V) ⟨hp,I⟩ ?_;rintro V ⟨l,w⟩;have x:=hid l;have HV2:=hid w
 have e3:=(o.out.moved w).m.2.1;have y3:=(o.out.moved w).m.1;have c72:V.cell? ⟨F.g,72,G⟩=A (J Q M.clock):=by rw[HCL.out];exact l.at 72 _ D
 have c74:=l.at 74 (J Q ε.aready) D;have vf:=l.bx.f;have vg:=l.bx.z;clear l w hp I b e1 e2 N y2 yg y k t HB3 HP2;go_wp2;refine wp_region_held_drew (S:=λw'=>w'.cell? ⟨mb,0,G⟩=A (pt F.g 0)/\w'.cell? ⟨F.g,72,G⟩=A (J Q M.clock)) (by kernel_rfl) (⟨e3,c72⟩) ?_;intro b;refine bH 0 b ?_;refine bH 1 b ?_;refine bH 2 b ?_;refine bH 3 b ?_;refine bH 4 b ?_;refine bH 5 b ?_;refine bH 6 b ?_;refine gy 7 (λK d=>?_);go_simp;refine gL d (⟨(Φ (f8 c.out.1)).trans b.1,(ap _ _ _ _ (by simp)).trans b.2⟩) (λ_=>?_);clear d K;refine wpAnyH_done (by kernel_rfl) ?_ _;go_simp;go_wp2;go_end0;rw[EL.out];exact⟨D,x.out.drew.put (M':={ ε with aux:=gM (ε.lookA 0) (ε.lookA 1),aready:=M.clock }) (tk':=tk) 74 _ (by omega) D ⟨D,D,D,D,D⟩ (Mach.fit.of x.out.fit { x.out.fit with main:=x.out.fit.main } ⟨D,D,D,D,D⟩ D ⟨D,D,D⟩ ⟨D,D⟩ (ao HCL.out)),Gt.set j.out.nd (Mv.drew HV2.out) 74 _⟩
theorem Gm.putP16(h:Gd F W M tk)(b:Pu F W mb hb lb gb)(a n:Int)(h1:53248<=a)(h2:a<=57343)(c:0<=n/\n<=255)(d:bl a 32=16):Δ ω 94 #[J Y a,J au n,pt mb 0,pt hb 0,pt lb 0,pt gb 0] W λe w'=>e=μ (Ψ #[])/\Gd F w' (M.putM 16 n) tk/\Gt F W w':=by
 cases f:M.held
 ·exact Gm.putP16f h b a n h1 h2 c d f
 ·have hc:n/2%2=0 \/ n/2%2=1:=by omega
  rcases hc with g|g
  ·exact Gm.putP16g h b a n h1 h2 c d f g
  ·exact Gm.putP16t h b a n h1 h2 c d f g
end
def nk(F:Gx)(W w':u)(M:Mach)(tk:Tk)(l:List Wt):Prop:=(∃ v,Gd F w' M (tk.app l v))/\Gw F W w'/\(tk.v.ownBlock=G->∀ k,k<W.heap.size->¬ F.T k->w'.heap[k]?=W.heap[k]?)
section
variable {F : Gx} {W : u} {M M' : Mach} {tk : Tk} {gb mb : Nat}
theorem pS{w1:u}{l:List Wt}(h:Gd F w1 M tk)(b:l=[])(a:Gt F W w1):nk F W w1 M tk l:=⟨(BU h b a).1,a.w,λ_ k c d=>a.block k c d⟩
theorem Gm.auxN0(h:Gd F W M tk)(a n:Int)(h1:0<=a)(h2:a<32768):Δ ω 150 #[J Y a,J au n,pt mb 0,pt gb 0] W λe w'=>e=μ (Ψ #[])/\nk F W w' M tk []:=by
 have H:=hid h;clear h;go_enter func150,ntmps150;go_wp2_with (go_at_call 88;refine(Gm.reg0 a _ h1 h2).mono ?_;rintro e w1 ⟨rfl,rfl⟩)
 go_end0;exact⟨D,pS H.out D (Gt.refl _ _)⟩
theorem Gm.auxN4(h:Gd F W M tk)(a n:Int)(h1:57344<=a)(h2:a<=65535):Δ ω 150 #[J Y a,J au n,pt mb 0,pt gb 0] W λe w'=>e=μ (Ψ #[])/\nk F W w' M tk []:=by
 have H:=hid h;clear h;go_enter func150,ntmps150;go_wp2_with (go_at_call 88;refine(Gm.reg4 a _ h1 h2).mono ?_;rintro e w1 ⟨rfl,rfl⟩)
 go_end0;exact⟨D,pS H.out D (Gt.refl _ _)⟩
theorem Gm.auxN1(h:Gd F W M tk)(c:Pb F W mb)(a n:Int)(h1:32768<=a)(h2:a<49152)(d:0<=n/\n<=255):Δ ω 150 #[J Y a,J au n,pt mb 0,pt gb 0] W λe w'=>e=μ (Ψ #[])/\nk F W w' { M with own:=lF M.own ((a-32768)%64) n } tk []:=by
 obtain⟨j,e1,_⟩:=c;obtain⟨b,e,_,_⟩:=h.ownV;have f:W.cell? ⟨F.g,33,G⟩=A (κ (A ⟨F.ow,0,G⟩) 64 b):=(h.at 33 F.S.ow D).trans (by rw[e]);obtain⟨k,l,m⟩:=h.ownAt ((a-32768)%64) (by omega) (by omega);have i:bl (a-32768) 64=(a-32768)%64:=ak (by omega);have o:=h.bx.z;have H:=hid h;clear h e;go_enter func150,ntmps150;go_wp2_with (go_at_call 88;refine(Gm.reg1 a _ h1 h2).mono ?_;rintro e w1 ⟨rfl,rfl⟩)
 go_end0;exact⟨D,pS (H.out.putOwn _ n (by omega) (by omega) d) D ((Gt.refl _ _).setO H.out.nd _ _)⟩
theorem Gm.auxN2(h:Gd F W M tk)(f:Pb F W mb)(a n:Int)(h1:49152<=a)(h2:a<53248)(i:0<=n/\n<=255)(b:M.granted=Γ):Δ ω 150 #[J Y a,J au n,pt mb 0,pt gb 0] W λe w'=>e=μ (Ψ #[])/\nk F W w' { M with ram:=lF M.ram ((a-49152)%128) n } tk []:=by
 obtain⟨l,e1,_⟩:=f;obtain⟨c,e,_,_⟩:=h.ramV;have j:W.cell? ⟨F.g,32,G⟩=A (κ (A ⟨F.ra,0,G⟩) 128 c):=(h.at 32 F.S.ra D).trans (by rw[e]);obtain⟨m,o,p⟩:=h.ramAt ((a-49152)%128) (by omega) (by omega);have k:bl a 128=(a-49152)%128:=by rw[ak (by omega)];omega
 have d:=h.at 67 (ν M.granted) D;rw[b] at d;have q:=h.bx.z;have H:=hid h;clear h e b;go_enter func150,ntmps150;go_wp2_with (go_at_call 88;refine(Gm.reg2 a _ h1 h2).mono ?_;rintro e w1 ⟨rfl,rfl⟩)
 go_end0;exact⟨D,pS (H.out.putRam _ n (by omega) (by omega) i) D ((Gt.refl _ _).setR H.out.nd _ _)⟩
theorem Gm.auxN3(h:Gd F W M tk)(d:Pb F W mb)(a n:Int)(h1:49152<=a)(h2:a<53248)(b:M.granted=ξ):Δ ω 150 #[J Y a,J au n,pt mb 0,pt gb 0] W λe w'=>e=μ (Ψ #[])/\nk F W w' M tk []:=by
 obtain⟨f,e1,_⟩:=d;have c:=h.at 67 (ν M.granted) D;rw[b] at c;have g:=h.bx.z;have H:=hid h;clear h b;go_enter func150,ntmps150;go_wp2_with (go_at_call 88;refine(Gm.reg2 a _ h1 h2).mono ?_;rintro e w1 ⟨rfl,rfl⟩)
 go_end0;exact⟨D,pS H.out D (Gt.refl _ _)⟩
theorem Gm.auxP24(h:Gd F W M tk)(b:Pb F W mb)(a n:Int)(h1:53248<=a)(h2:a<=57343)(c:0<=n/\n<=255)(d:bl a 32=24):Δ ω 150 #[J Y a,J au n,pt mb 0,pt gb 0] W λe w'=>e=μ (Ψ #[])/\nk F W w' { M with m1:=n } tk []:=by
 obtain⟨g,e1,_⟩:=b;have c1:=h.at 70 (J au M.m1) D;have f1:=h.bx.f 70;have i:=h.bx.z;have H:=hid h;clear h;go_enter func150,ntmps150;go_wp2_with (go_at_call 88;refine(Gm.reg3 a _ h1 h2).mono ?_;rintro e w1 ⟨rfl,rfl⟩)
 go_end0;exact⟨D,pS (H.out.put (M':={ M with m1:=n }) (tk':=tk) 70 _ (by omega) D ⟨D,D,D,D,D⟩ (Mach.fit.of H.out.fit ⟨H.out.fit.main,H.out.fit.aux,H.out.fit.p0,H.out.fit.p1,H.out.fit.tr,H.out.fit.tc,H.out.fit.s,H.out.fit.fr,H.out.fit.to,H.out.fit.m0,c⟩ ⟨D,D,D,D,D⟩ D ⟨D,D,D⟩ ⟨D,D⟩ (aj D))) D (Gt.set H.out.nd (Gt.refl _ _) _ _)⟩
theorem Gm.auxPd(h:Gd F W M tk)(a n:Int)(h1:53248<=a)(h2:a<=57343)(k:Int)(c:bl a 32=k)(k0:24<=k)(k1:k<=31)(b:(k == 24)=ξ):Δ ω 150 #[J Y a,J au n,pt mb 0,pt gb 0] W λe w'=>e=μ (Ψ #[])/\nk F W w' M tk []:=by
 have H:=hid h;clear h;go_enter func150,ntmps150;go_wp2_with (go_at_call 88;refine(Gm.reg3 a _ h1 h2).mono ?_;rintro e w1 ⟨rfl,rfl⟩)
 go_end0;exact⟨D,pS H.out D (Gt.refl _ _)⟩
theorem Gx.putSnd(F:Gx)(M:Mach)(tk:Tk)(s:Sd):kr (F.cells M tk) 45 (dq s)=F.cells { M with s:=s } tk:=by
 have e:∀ M:Mach,F.cells M tk=(bY M.main++(bY M.aux++(zh F.S++rH M)))++(dq M.s++(vy M++[tk.v,J Q tk.n])):=by
  intro M;unfold Gx.cells υ;rw[zpZ];simp only[bK]
 rw[e M,e];exact tJ _ (dq s) (dq M.s) (bY M.main++(bY M.aux++(zh F.S++rH M))) D
theorem Gd.sndR(h:Gd F W M tk):W.rangeAt F.g 45 (dq M.s):=λi v hi=>by
 have a:=(ay.1 hi).1;have hc:i=0 \/ i=1 \/ i=2 \/ i=3 \/ i=4 \/ i=5 \/ i=6 \/ i=7 \/ i=8 \/ i=9 \/ i=10 \/ i=11 \/ i=12 \/ i=13 \/ i=14 \/ i=15:=by simp[dq] at a;omega
 refine h.at (45+i) v ?_;rcases hc with rfl|rfl|rfl|rfl|rfl|rfl|rfl|rfl|rfl|rfl|rfl|rfl|rfl|rfl|rfl|rfl <;> exact hi
theorem CC(F:Gx)(M:Mach)(tk:Tk)(l:List Wt)(v:π):(F.cells M tk).set 75 v=F.cells M (tk.app l v):=rfl
theorem Gd.apart_new(h:Gd F W M tk):F.apart M (λj=>j=W.heap.size):=⟨λhp k a e=>by have:=h.mr.lt hp k a;omega,λhp k a e=>by have:=h.ar.lt hp k a;omega⟩
theorem Gd.wrote(h:Gd F W M tk){i:u}{x:Wt}{b f:Nat}(o:W.grownBy i tk.v.ownBlock)(p:i.ownsRow F.B 104 3 (κ (A ⟨b,0,G⟩) (tk.l.length+1) f) (tk.l.length+1) (oC tk.l++[J Q x.c,J Q x.a,J au x.v]))(s:tk.v.ownBlock=A b \/ b=W.heap.size):Gd F (i.setCell ⟨F.g,75,G⟩ (κ (A ⟨b,0,G⟩) (tk.l.length+1) f)) M (tk.app [x] (κ (A ⟨b,0,G⟩) (tk.l.length+1) f))/\Gw F W (i.setCell ⟨F.g,75,G⟩ (κ (A ⟨b,0,G⟩) (tk.l.length+1) f)):=by
 have m:¬ F.T b/\F.apart M (λj=>j=b):=by
  rcases s with e|e
  ·exact h.wd b e
  ·rw[e];exact⟨h.fresh (ψ _),h.apart_new⟩
 have k:∀ j,j<W.heap.size->F.T j->i.heap[j]?=W.heap[j]?:=λj q E=>o.block j q (λe=>(h.wd j e.symm).1 E)
 have n:W.heap.size<=i.heap.size:=o.size;have t:W.heap.size<=(i.setCell ⟨F.g,75,G⟩ (κ (A ⟨b,0,G⟩) (tk.l.length+1) f)).heap.size:=by rw[lA];exact n
 obtain⟨d1,d2,d3,_⟩:=h.nd.d;refine⟨⟨CC F M tk [x] _ ▸ (h.bx.same n (k _ h.bx.z (aj D))).set 75 _ (by rw[F.len];omega),?_,?_,?_,?_,?_,h.nd,h.fit,ax h.big t,?_,h.rd,?_⟩,(Gw.grown h o).trans (Gt.w (Gt.set h.nd (Gt.refl F i) 75 _))⟩
 ·exact(h.mr.same n (λhp j e q=>o.block j q (λe2=>(h.wd j e2.symm).2.1 hp j e D))).same (by rw[lA];exact ψ _) (λhp j e _=>f8 (λe2=>h.rd.1 hp j e (aj e2)))
 ·exact(h.ar.same n (λhp j e q=>o.block j q (λe2=>(h.wd j e2.symm).2.2 hp j e D))).same (by rw[lA];exact ψ _) (λhp j e _=>f8 (λe2=>h.rd.2 hp j e (aj e2)))
 ·exact(h.ra.same n (λr=>k _ r (ao (aj D)))).same (by rw[lA];exact ψ _) (λ_=>f8 (bZ d1))
 ·exact(h.ow.same n (λr=>k _ r (ao (ao (aj D))))).same (by rw[lA];exact ψ _) (λ_=>f8 (bZ d2))
 ·exact(h.vi.same n (λr=>k _ r (ao (ao (ao D))))).same (by rw[lA];exact ψ _) (λ_=>f8 (bZ d3))
 ·refine jr (w:=i) ?_ (λj e=>f8 (λe2=>?_))
  ·show i.ownsRow F.B 104 3 _ (tk.l++[x]).length (oC (tk.l++[x]))
   rw[az,znR];exact p
  ·have y:b=j:=by cases e;rfl
   exact m.1 (by rw[y,e2];exact aj D)
 ·intro j e
  have y:b=j:=by cases e;rfl
  rw[<- y];exact m
theorem zwP(h:Gd F W M tk):∃ ua uc,tk.v=κ ua tk.l.length uc:=by
 rcases h.ws.2 with⟨e,e2⟩|⟨g,a,b,e,_⟩
 ·exact⟨G,0,by rw[e,e2]⟩
 ·exact⟨_,_,e⟩
theorem Gm.auxPs(h:Gd F W M tk)(hm:Pb F W mb)(V:Pb F W gb)(hwm:tk.v.ownBlock≠A mb)(hwg:tk.v.ownBlock≠A gb)(a n:Int)(h1:53248<=a)(h2:a<=57343)(hn:0<=n/\n<=255)(k:Nat)(hk:bl a 32=k)(hk24:k<24)(hl:tk.l.length<=1000000000):Δ ω 150 #[J Y a,J au n,pt mb 0,pt gb 0] W λe w'=>e=μ (Ψ #[])/\nk F W w' { M with s:=M.s.put k n } tk [⟨M.clock,k,n⟩]:=by
 have HPB:=hid (And.intro hm V);have X:bG (mb≠F.g/\gb≠F.g):=hid ⟨hm.ne,V.ne⟩;have HWB:bG ((∀ e:tk.v.ownBlock=A mb,False)/\(∀ e:tk.v.ownBlock=A gb,False)):=hid ⟨λe=>hwm e,λe=>hwg e⟩;obtain⟨y1,e1,_⟩:=hm;have hg:=h.bx.z;have hs:=h.fit.s;have hk2:(k:Int)<24:=by omega
 have H:=hid h;clear h V hwm hwg;go_enter func150,ntmps150;go_upto_region 9 with(go_at_call 88;refine(Gm.reg3 a _ h1 h2).mono ?_;rintro e w1 ⟨rfl,rfl⟩)
 go_cut [] (λι=>Gd F ι { M with s:=M.s.put k n } tk/\Gt F W ι)
 case first =>
  refine wp_region_held_drew (S:=λw'=>w'.cell? ⟨mb,0,G⟩=A (pt F.g 0)) (by kernel_rfl) (e1) ?_;intro m;refine bH 0 m ?_;refine bH 1 m ?_;refine bH 2 m ?_;refine bH 3 m ?_;refine bH 5 m ?_;refine bH 6 m ?_;refine gy 4 (λK c=>?_);refine zey D 36 _ D F.g 45 D (dq M.s) _ H.out.drew.sndR underlying36 D nh ?_;refine gL c m (λ_=>?_);clear c K;refine gy 7 (λK c=>?_);unfold dq;go_simp;go_at_call 151
  refine(zwA M.s k n _ hk24 hs hn).mono ?_;rintro e w2 ⟨rfl,Z⟩;try go_wp2_with fail
  have HB2:=hid (H.out.drew.kept Z);have HL2:=hid (bw (aR W).drew Z);have P:w2.cell? ⟨mb,0,G⟩=A (pt F.g 0):=(Z.cell (p:=⟨mb,0,G⟩) y1).trans m;refine gL c P (λ_=>?_);clear c K m;refine bH 8 P ?_;refine bH 9 P ?_;refine gy 10 (λK c=>?_);refine pH D 36 _ _ D F.g 45 (dq (M.s.put k n)).toArray D D (Bx.there HB2.out.bx 45 16 (by rw[Gx.len];omega)) nh (kH (M.s.put k n)) ?_;refine c.out _ _ ((Φ (ji X.out.1 _ _ _)).trans P) (λ_=>?_);clear c K;refine wpAnyH_done (by kernel_rfl) ?_ _;have hf:Mach.fit { M with s:=M.s.put k n }:=Mach.fit.of H.out.fit { H.out.fit with main:=H.out.fit.main,s:=Sd.put_ok H.out.fit.s k n hn } ⟨D,D,D,D,D⟩ (Sd.put_w _ _ _) ⟨D,D,D⟩ ⟨D,D⟩ (aj D);have hp:=HB2.out.puts (M':={ M with s:=M.s.put k n }) (tk':=tk) 45 (dq (M.s.put k n)) (by simp[dq]) (F.putSnd M tk _) ⟨D,D,D,D,D⟩ hf;have ht:=Gt.sets H.out.nd (dq (M.s.put k n)) 45 _ (Gt.under H.out HL2.out);try go_simp
  rename_i hM _ _ _;refine hM _ _ ?_;go_meet;exact⟨hp,ht⟩
 case rest =>
 obtain⟨hY1,R⟩:=hcut;have E:=hid hY1;have T:=hid R;have HM:=hid (HPB.out.1.moved R);have HG:=hid (HPB.out.2.moved R);have z1:=HM.out.1;have q1:=HM.out.2.1;have z2:=HG.out.1;have q2:=HG.out.2.1;have zg:=E.out.bx.z;obtain⟨ua,uc,hv⟩:=zwP E.out;have q3:wc.cell? ⟨F.g,75,G⟩=A (κ ua tk.l.length uc):=(E.out.at 75 tk.v D).trans (by rw[hv]);have q4:wc.cell? ⟨F.g,72,G⟩=A (J Q M.clock):=E.out.at 72 _ D;have L:=hid ((E.out.over (χ #[J Q M.clock,J Q k,J au n] 104)).drew);have HU:bG (((wc.alloc (χ #[J Q M.clock,J Q k,J au n] 104)).drew).ownsRow F.B 104 3 (κ ua tk.l.length uc) tk.l.length (oC tk.l)):=hv ▸ L.out.ws;have HN:bG (∀ j θ,([J Q M.clock,J Q k,J au n]:List π)[j]?=A θ->((wc.alloc (χ #[J Q M.clock,J Q k,J au n] 104)).drew).cell? ((⟨wc.heap.size,0,G⟩:Addr).add j)=A θ):=World.news_of_block (cs:=#[J Q M.clock,J Q k,J au n]) (t:=104) (fr:=(0,0)) (aM wc _);have HO:bG (∀ θ∈([J Q M.clock,J Q k,J au n]:List π),θ.oneCell'=Γ):=by intro θ hu;simp at hu;rcases hu with rfl|rfl|rfl <;> rfl
 have HZ:bG (F.B<=((wc.alloc (χ #[J Q M.clock,J Q k,J au n] 104)).drew).heap.size):=L.out.big;have H63:bG (tk.l.length+1<=maxLen):=by show _<=_;unfold maxLen;omega
 have HBY:bG ((tk.l.length+1)*24<=140737488355328):=by show _<=_;omega
 have r:∀ x,x<((wc.alloc (χ #[J Q M.clock,J Q k,J au n] 104)).drew).heap.size->(∀ e:tk.v.ownBlock=A x,False)->∀ b:u,((wc.alloc (χ #[J Q M.clock,J Q k,J au n] 104)).drew).grownBy b (κ ua tk.l.length uc).ownBlock->b.heap[x]?=((wc.alloc (χ #[J Q M.clock,J Q k,J au n] 104)).drew).heap[x]?:=λx hx hne b i=>i.block x hx (λe=>hne (by rw[hv];exact e.symm))
 have HGF:bG (∀ b,((wc.alloc (χ #[J Q M.clock,J Q k,J au n] 104)).drew).grownBy b (κ ua tk.l.length uc).ownBlock->b.frozen? ⟨F.g,75,G⟩=ξ/\F.g<b.heap.size/\b.cell? ⟨F.g,75,G⟩=A (κ ua tk.l.length uc)):=λb i=>by
  have hx:=L.out.bx.same i.size (r F.g L.out.bx.z (λe=>(L.out.wd F.g e).1 (aj D)) b i);exact⟨hx.f 75,hx.z,(hx.at 75 tk.v D).trans (by rw[hv])⟩
 have HK:bG (∀(U cp:Nat) (b:u),b.ownsRow F.B 104 3 (κ (A ⟨U,0,G⟩) (tk.l.length+1) cp) (tk.l.length+1) (oC tk.l++[J Q M.clock,J Q k,J au n])->((wc.alloc (χ #[J Q M.clock,J Q k,J au n] 104)).drew).grownBy b (κ ua tk.l.length uc).ownBlock->((κ ua tk.l.length uc).ownBlock=A U \/ U=wc.heap.size+1) ->
  nk F W (b.setCell ⟨F.g,75,G⟩ (κ (A ⟨U,0,G⟩) (tk.l.length+1) cp)) { M with s:=M.s.put k n } tk [⟨M.clock,k,n⟩]):=λU cp b hown i I=>by
  rw[<- hv] at i I;obtain⟨x1,x2⟩:=L.out.wrote (x:=⟨M.clock,k,n⟩) i hown (I.imp id (λe=>by rw[e];show _=(wc.alloc _).heap.size;simp));refine⟨⟨_,x1⟩,(T.out.w.trans (Gw.of_below E.out.big ((stA (aR wc) _).drew))).trans x2,λh0 j hj hT=>?_⟩;have a1:=T.out.block j hj hT;have a2:=((stA (aR wc) (χ #[J Q M.clock,J Q k,J au n] 104)).drew).block j (Θ hj (Mv.size T.out));have a3:=i.block j (Θ (Θ hj (Mv.size T.out)) ((stA (aR wc) _).drew).size) (by rw[h0];exact λe=>by cases e);exact((f8 (λe=>hT (aj e))).trans a3).trans (a2.trans a1)
 obtain⟨i1,hj0,hy0,hy1,hy2⟩:=info_parts zit;have HSZ:bG (((wc.alloc (χ #[J Q M.clock,J Q k,J au n] 104)).drew).heap.size=wc.heap.size+1):=by show _=_;simp
 have N:bG (((wc.alloc (χ #[J Q M.clock,J Q k,J au n] 104)).drew).cell? ⟨mb,0,G⟩=A (pt F.g 0)/\((wc.alloc (χ #[J Q M.clock,J Q k,J au n] 104)).drew).cell? ⟨gb,0,G⟩=A (pt F.g 0)/\((wc.alloc (χ #[J Q M.clock,J Q k,J au n] 104)).drew).cell? ⟨F.g,72,G⟩=A (J Q M.clock)):=⟨((HM.out.kept ((stA (aR wc) _).drew)).2.1),((HG.out.kept ((stA (aR wc) _).drew)).2.1),L.out.at 72 _ D⟩
 have HQ5:bG (((wc.alloc (χ #[J Q M.clock,J Q k,J au n] 104)).drew).cell? ⟨F.g,75,G⟩=A (κ ua tk.l.length uc)/\F.g<((wc.alloc (χ #[J Q M.clock,J Q k,J au n] 104)).drew).heap.size):=⟨(L.out.at 75 tk.v D).trans (by rw[hv]),L.out.bx.z⟩
 have HS3:bG (∀ b:u,((wc.alloc (χ #[J Q M.clock,J Q k,J au n] 104)).drew).grownBy b (κ ua tk.l.length uc).ownBlock->b.cell? ⟨mb,0,G⟩=A (pt F.g 0)/\b.cell? ⟨gb,0,G⟩=A (pt F.g 0)/\b.cell? ⟨F.g,72,G⟩=A (J Q M.clock)):=λb i =>
  ⟨(Φ (r mb (Θ z1 ((stA (aR wc) _).drew).size) HWB.out.1 b i)).trans N.out.1,(Φ (r gb (Θ z2 ((stA (aR wc) _).drew).size) HWB.out.2 b i)).trans N.out.2.1,(Φ (r _ L.out.bx.z (λe=>(L.out.wd _ e).1 (aj D)) b i)).trans (L.out.at 72 _ D)⟩
 have HS4:bG (∀(b:u) (v:π),(b.cell? ⟨mb,0,G⟩=A (pt F.g 0)/\b.cell? ⟨gb,0,G⟩=A (pt F.g 0)/\b.cell? ⟨F.g,72,G⟩=A (J Q M.clock))->(b.setCell ⟨F.g,75,G⟩ v).cell? ⟨mb,0,G⟩=A (pt F.g 0)/\(b.setCell ⟨F.g,75,G⟩ v).cell? ⟨gb,0,G⟩=A (pt F.g 0)/\(b.setCell ⟨F.g,75,G⟩ v).cell? ⟨F.g,72,G⟩=A (J Q M.clock)):=λb v h=>⟨(Φ (f8 X.out.1)).trans h.1,(Φ (f8 X.out.2)).trans h.2.1,(ap _ _ _ _ (by simp)).trans h.2.2⟩
 clear hY1 R hv hl r;go_wp2;refine wp_region_held_drew (S:=λw'=>w'.cell? ⟨mb,0,G⟩=A (pt F.g 0)/\w'.cell? ⟨gb,0,G⟩=A (pt F.g 0)/\w'.cell? ⟨F.g,72,G⟩=A (J Q M.clock)) (by kernel_rfl) (⟨q1,q2,q4⟩) ?_;intro m;refine bH 0 m ?_;refine bH 1 m ?_;refine bH 2 m ?_;refine bH 3 m ?_;refine bH 5 m ?_;refine bH 6 m ?_;refine bH 7 m ?_;refine bH 8 m ?_;refine bH 9 m ?_;refine bH 10 m ?_;refine bH 11 m ?_;refine wpAnyH_ready (rs:=[4,12]) (by kernel_rfl) (by simp) ?_;refine AllReadyH.cons (o:=⟨A 57,_,_,_,_,G⟩) D (λK c=>?_) (AllReadyH.cons (o:=⟨A 65,_,_,_,_,G⟩) D (λK c=>?_) AllReadyH.nil)
 ·go_simp
  refine gL c m (λ_=>?_);clear c K;refine gy 12 (λK c=>?_);go_simp;refine gL c N.out (λ_=>?_);clear c K;refine gy 13 (λK c=>?_);refine step_append_lies _ (by rfl) (.tmp 57) (.tmp 65) 45 (by rfl) F.B 104 i1 _ 3 24 underlying45 hj0 hy0 hy1 hy2 D (by omega) (κ ua tk.l.length uc) tk.l.length (oC tk.l) D HU.out ⟨wc.heap.size,0,G⟩ 1 1 [J Q M.clock,J Q k,J au n] D D HN.out HO.out (by omega) H63.out HBY.out HZ.out (wc.heap.size+1) HSZ.out ?_;intro U cp b y d I hlt3;have q:=HS3.out b d;refine gL c q (λ_=>?_);clear c K;refine bH 14 q ?_;refine bH 15 q ?_;refine gy 16 (λK c=>?_);obtain⟨f3,z3,d3⟩:=HGF.out b d;go_simp;refine c.out _ _ (HS4.out b _ q) (λ_=>?_);clear c K;refine wpAnyH_done (by kernel_rfl) ?_ _;go_simp;go_wp2;go_end0;exact⟨D,HK.out U cp b y d I⟩
 ·go_simp
  refine gL c N.out (λ_=>?_);clear c K;refine gy 4 (λK c=>?_);have q5:=HQ5.out;go_simp;refine gL c N.out (λ_=>?_);clear c K q5;refine gy 13 (λK c=>?_);refine step_append_lies _ (by rfl) (.tmp 57) (.tmp 65) 45 (by rfl) F.B 104 i1 _ 3 24 underlying45 hj0 hy0 hy1 hy2 D (by omega) (κ ua tk.l.length uc) tk.l.length (oC tk.l) D HU.out ⟨wc.heap.size,0,G⟩ 1 1 [J Q M.clock,J Q k,J au n] D D HN.out HO.out (by omega) H63.out HBY.out HZ.out (wc.heap.size+1) HSZ.out ?_;intro U cp b y d I hlt3;have q:=HS3.out b d;refine gL c q (λ_=>?_);clear c K;refine bH 14 q ?_;refine bH 15 q ?_;refine gy 16 (λK c=>?_);obtain⟨f3,z3,d3⟩:=HGF.out b d;go_simp;refine c.out _ _ (HS4.out b _ q) (λ_=>?_);clear c K;refine wpAnyH_done (by kernel_rfl) ?_ _;go_simp;go_wp2;go_end0;exact⟨D,HK.out U cp b y d I⟩
theorem Gm.putA(h:Gd F W M tk)(d:Pb F W mb)(i:Pb F W gb)(j:tk.v.ownBlock≠A mb)(m:tk.v.ownBlock≠A gb)(a n:Int)(p:0<=a/\a<=65535)(f:0<=n/\n<=255)(q:tk.l.length<=1000000000):Δ ω 150 #[J Y a,J au n,pt mb 0,pt gb 0] W λe w'=>e=μ (Ψ #[])/\nk F W w' (M.wrA a n) tk (M.shA a n):=by
 unfold Mach.wrA Mach.shA;by_cases hp:dP a=Γ
 ·rw[am hp,am hp]
  have b:53248<=a/\a<=57343:=by unfold dP at hp;simpa using hp
  have r:bl a 32=a%32:=ak (by omega);have hb:portNo a<32:=by unfold portNo;omega
  have o:bl a 32=((portNo a:Nat):Int):=by rw[r];unfold portNo;omega
  generalize portNo a=k at *;unfold Mach.putA shown;by_cases e:k<24
  ·rw[am e,am e]
   exact Gm.auxPs h d i j m a n b.1 b.2 f k o e q
  rw[ae e,ae e];by_cases e2:k=24
  ·rw[am e2]
   exact Gm.auxP24 h d a n b.1 b.2 f (by rw[o,e2];rfl)
  rw[ae e2];exact Gm.auxPd h a n b.1 b.2 k o (by omega) (by omega) (by simp;omega)
 ·rw[ae hp,ae hp]
  have b:¬ (53248<=a/\a<=57343):=by unfold dP at hp;simpa using hp
  unfold Mach.memA;by_cases h1:a<32768
  ·rw[am h1]
   exact Gm.auxN0 h a n p.1 h1
  rw[ae h1];by_cases h2:a<49152
  ·rw[am h2]
   exact Gm.auxN1 h d a n (by omega) h2 f
  rw[ae h2];by_cases h3:a<53248
  ·rw[am h3]
   cases c:M.granted
   ·have g:=Gm.auxN3 (gb:=gb) h d a n (by omega) h3 c
    simp only[cD,fj];exact g
   ·have g:=Gm.auxN2 (gb:=gb) h d a n (by omega) h3 f c
    rw[c] at g;simp only[fO];exact g
  rw[ae h3];exact Gm.auxN4 h a n (by omega) p.2
end
section
variable {F : Gx} {W : u} {M M' : Mach} {tk : Tk} {mb hb lb gb : Nat}
theorem kI{e:Ending}{w':u}{t:Int}(h:e=μ (Ψ #[])/\Gd F w' M' tk/\Gt F W w')(a:t=0):e=μ (Ψ #[])/\Gd F w' M' (tk.add t)/\Gt F W w':=by rw[a,Tk.add_zero];exact h
theorem Gm.putM(h:Gd F W M tk)(d:Pu F W mb hb lb gb)(a n:Int)(v:0<=a/\a<=65535)(f:0<=n/\n<=255)(l:0<=tk.n/\tk.n<=1000000000000):Δ ω 94 #[J Y a,J au n,pt mb 0,pt hb 0,pt lb 0,pt gb 0] W λe w'=>e=μ (Ψ #[])/\Gd F w' (M.wrM a n) (tk.add (kt a n))/\Gt F W w':=by
 unfold Mach.wrM kt;by_cases hp:dP a=Γ
 ·rw[am hp,am hp]
  have c:53248<=a/\a<=57343:=by unfold dP at hp;simpa using hp
  have x:bl a 32=a%32:=ak (by omega);have w:portNo a<32:=by unfold portNo;omega
  have g:bl a 32=((portNo a:Nat):Int):=by rw[x];unfold portNo;omega
  generalize portNo a=k at *;by_cases j:k=14
  ·subst j;exact Gm.putP14 h d a n c.1 c.2 f g l
  have i:ph k n=0:=by unfold ph;rw[ae j]
  by_cases y:k=0
  ·subst y;exact(Gm.putP0 h d a n c.1 c.2 f g).mono (λ_ _ b=>kI b i)
  by_cases e2:k=2
  ·subst e2;exact(Gm.putP2 h d a n c.1 c.2 f g).mono (λ_ _ b=>kI b i)
  by_cases e3:k=3
  ·subst e3;exact(Gm.putP3 h d a n c.1 c.2 f g).mono (λ_ _ b=>kI b i)
  by_cases e4:k=4
  ·subst e4;exact(Gm.putP4 h d a n c.1 c.2 f g).mono (λ_ _ b=>kI b i)
  by_cases z:k=8
  ·subst z;exact(Gm.putP8 h d a n c.1 c.2 f g).mono (λ_ _ b=>kI b i)
  by_cases o:k=10
  ·subst o;exact(Gm.putR h d a n c.1 c.2 f 10 _ g (by omega)).mono (λ_ _ b=>kI b i)
  by_cases p:k=11
  ·subst p;exact(Gm.putR h d a n c.1 c.2 f 11 _ g (by omega)).mono (λ_ _ b=>kI b i)
  by_cases q:k=12
  ·subst q;exact(Gm.putR h d a n c.1 c.2 f 12 _ g (by omega)).mono (λ_ _ b=>kI b i)
  by_cases r:k=13
  ·subst r;exact(Gm.putR h d a n c.1 c.2 f 13 _ g (by omega)).mono (λ_ _ b=>kI b i)
  by_cases s:k=16
  ·subst s;exact(Gm.putP16 h d a n c.1 c.2 f g).mono (λ_ _ b=>kI b i)
  by_cases t:k=17
  ·subst t;exact(Gm.putP17 h d a n c.1 c.2 f g).mono (λ_ _ b=>kI b i)
  have B:M.putM k n=M:=by
   unfold Mach.putM;split <;> first|rfl|(exfalso;omega)
  rw[B];exact(Gm.putPd h d a n c.1 c.2 f k g (by omega) (by omega) (by simp;omega) (by simp;omega) (by simp;omega) (by simp;omega) (by simp;omega) (by simp;omega) (by simp;omega) (by simp;omega) (by simp;omega) (by simp;omega) (by simp;omega) (by simp;omega)).mono (λ_ _ b=>kI b i)
 ·rw[ae hp,ae hp]
  have c:¬ (53248<=a/\a<=57343):=by unfold dP at hp;simpa using hp
  unfold Mach.memM;by_cases h1:a<32768
  ·rw[am h1]
   exact(Gm.putN0 h a n v.1 h1).mono (λ_ _ b=>kI b D)
  rw[ae h1];by_cases h2:a<49152
  ·rw[am h2]
   exact(Gm.putN1 h d.m a n (by omega) h2 f).mono (λ_ _ b=>kI b D)
  rw[ae h2];by_cases h3:a<53248
  ·rw[am h3]
   exact(Gm.putN2 h d.m a n (by omega) h3 f).mono (λ_ _ b=>kI b D)
  rw[ae h3];exact(Gm.putN4 h a n (by omega) v.2).mono (λ_ _ b=>kI b D)
end
end Go.Proofs.YthghjlinhokimaaGreatDoor
