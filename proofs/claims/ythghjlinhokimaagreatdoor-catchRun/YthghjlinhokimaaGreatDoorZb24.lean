/-
  Parts of a proof, joined.
-/
import Derived.Test.YthghjlinhokimaaGreatDoorZbA
import Derived.Test.YthghjlinhokimaaGreatDoorZb17
import Derived.Test.YthghjlinhokimaaGreatDoorZb19
import Derived.Test.YthghjlinhokimaaGreatDoorZb18
set_option linter.all false
set_option maxRecDepth 100000
set_option maxHeartbeats 12800000
open Option renaming none->G,some->A
open Go renaming World->u,Calls->Δ,binOp->fG
open Bool renaming false->ξ,true->Γ
open Go.Proofs.Tryz renaming prog->ω
open Go.Act renaming put->ag
open Int renaming tmod->bl,tdiv->gB
open Go.RowKit renaming Hid->bG
open List renaming range->cM
open Go.Program renaming fieldsOf->dX
open List.range renaming loop->iI
open Go.Op renaming eqItems->lp
open Go.Value renaming int->J,bool->ν,tuple->Ψ,agg->ac
open Go.IntKind renaming i64->Q,u16->Y,u8->au
open Go.Ending renaming returned->μ
namespace Go.Proofs.YthghjlinhokimaaGreatDoor
open Go.ChangeShapes Go.WideShapes Go.ChangeAt Go.RowKit Go.Proofs.Tryz
theorem zuC(a0 a1 a2 a3 a4 a5 a b:Int)(d:Nat)(w:u):(Op.equalIn (d+2) 23 (ac #[J Y a0,J Y a1,J Y a2,J Y a3,J Y a4,J Y a5,J Y a,J Y b]) (ac #[J Y a0,J Y a1,J Y a2,J Y a3,J Y a4,J Y a5,J Y a,J Y b])).run ω w=.ok Γ w:=by
 have u3:=underlying22;have x3:=isAgg22;have z3:=sizeOf22;have c:Tryz.prog.cellsOf 22=1:=by kernel_rfl
 have e:(Tryz.prog.info? 22).isSome=Γ:=by kernel_rfl
 obtain⟨i,hi⟩:=eE.1 e;rw[gY w (d+1) _ _ underlying23 hi,c];simp only[cM,iI,lp];go_simp
theorem zuD(c:C.Cpu)(w:u):(fG .eql 25 (ac #[J Y (c.r 0),J Y (c.r 1),J Y (c.r 2),J Y (c.r 3),J Y (c.r 4),J Y (c.r 5),J Y (c.r 6),J Y (c.r 7),J Y c.PC,ν c.Z,ν c.N,ν c.C,ν c.V,ν c.May,ν c.Waits]) (ac #[J Y (c.r 0),J Y (c.r 1),J Y (c.r 2),J Y (c.r 3),J Y (c.r 4),J Y (c.r 5),J Y (c.r 6),J Y (c.r 7),J Y c.PC,ν c.Z,ν c.N,ν c.C,ν c.V,ν c.May,ν c.Waits])).run ω w=.ok (ν Γ) w:=by
 have u3:=underlying22;have x3:=isAgg22;have z3:=sizeOf22;have u4:=underlying4;have b:=isAgg4;have z4:=sizeOf4;have d:=isAgg23;have z5:=sizeOf23;have e:=zuC (c.r 0) (c.r 1) (c.r 2) (c.r 3) (c.r 4) (c.r 5) (c.r 6) (c.r 7) 9997;have a:Tryz.prog.underlying 25=A (.struct (Tryz.prog.fieldsOf 25)):=by kernel_rfl
 have hp:Tryz.prog.stoodInHeld 25=ξ:=by kernel_rfl
 rw[dK,show (10000:Nat)=9999+1 from D,eI w 9999 25 _ _ a hp];simp only[dX,underlying25];go_simp
theorem ziF(c:C.Cpu)(w:u):(fG .eql 25 (ac (bY c).toArray) (ac (bY c).toArray)).run ω w=.ok (ν Γ) w:=zuD c w
theorem zrR(s:Sd)(w:u):(fG .eql 36 (ac (dq s).toArray) (ac (dq s).toArray)).run ω w=.ok (ν Γ) w:=zwn s w
theorem zlP(d s:Int)(l:Bool)(n:Nat)(w:u):(Op.equalIn (n+2) 28 (ac #[J au d,ν l,J au s]) (ac #[J au d,ν l,J au s])).run ω w=.ok Γ w:=by
 have u4:=underlying4;have a4:=isAgg4;have z4:=sizeOf4;have b:=underlying5;have a5:=isAgg5;have z5:=sizeOf5;have a:Tryz.prog.underlying 28=A (.struct (Tryz.prog.fieldsOf 28)):=by kernel_rfl
 have hp:Tryz.prog.stoodInHeld 28=ξ:=by kernel_rfl
 rw[eI w (n+1) 28 _ _ a hp];simp only[dX,underlying28];go_simp
theorem zoj(r c:Int)(on g:Bool)(w:u):(fG .eql 31 (ac #[J Y r,J Y c,ν on,ν g]) (ac #[J Y r,J Y c,ν on,ν g])).run ω w=.ok (ν Γ) w:=by
 have u3:=underlying22;have a3:=isAgg22;have z3:=sizeOf22;have u4:=underlying4;have a4:=isAgg4;have z4:=sizeOf4;have a:Tryz.prog.underlying 31=A (.struct (Tryz.prog.fieldsOf 31)):=by kernel_rfl
 have hp:Tryz.prog.stoodInHeld 31=ξ:=by kernel_rfl
 rw[dK,show (10000:Nat)=9999+1 from D,eI w 9999 31 _ _ a hp];simp only[dX,underlying31];go_simp
theorem zrS(l a f:Int)(g:Bool)(w:u):(fG .eql 38 (ac #[J Q l,J Q a,ν g,J Q f]) (ac #[J Q l,J Q a,ν g,J Q f])).run ω w=.ok (ν Γ) w:=by
 have u3:=underlying3;have a3:=isAgg3;have z3:=sizeOf3;have u4:=underlying4;have a4:=isAgg4;have z4:=sizeOf4;have b:Tryz.prog.underlying 38=A (.struct (Tryz.prog.fieldsOf 38)):=by kernel_rfl
 have hp:Tryz.prog.stoodInHeld 38=ξ:=by kernel_rfl
 rw[dK,show (10000:Nat)=9999+1 from D,eI w 9999 38 _ _ b hp];simp only[dX,underlying38];go_simp
theorem zrT(d s a s':Int)(l b:Bool)(w:u):(fG .eql 29 (ac #[J au d,ν l,J au s,J au a,ν b,J au s']) (ac #[J au d,ν l,J au s,J au a,ν b,J au s'])).run ω w=.ok (ν Γ) w:=by
 have f:=zlP d s l 9997;have h1:=zlP a s' b 9997;have a3:=isAgg28;have z3:=sizeOf28;have c:Tryz.prog.cellsOf 28=3:=by kernel_rfl
 have e:(Tryz.prog.info? 28).isSome=Γ:=by kernel_rfl
 obtain⟨i,hi⟩:=eE.1 e;rw[dK,show (10000:Nat)=9999+1 from D,gY w 9999 _ _ underlying29 hi,c];simp only[cM,iI,lp];go_simp
theorem zrU(x y:Int)(w:u):(fG .eql 39 (ac #[J au x,J au y]) (ac #[J au x,J au y])).run ω w=.ok (ν Γ) w:=by
 have u3:=underlying5;have a3:=isAgg5;have z3:=sizeOf5;have a:Tryz.prog.cellsOf 5=1:=by kernel_rfl
 have b:(Tryz.prog.info? 5).isSome=Γ:=by kernel_rfl
 obtain⟨i,hi⟩:=eE.1 b;rw[dK,show (10000:Nat)=9999+1 from D,gY w 9999 _ _ underlying39 hi,a];simp only[cM,iI,lp];go_simp
section
variable {F : Gx} {W : u} {M : Mach} {tk : Tk} {mb hb lb gb : Nat}
theorem Gm.putP400(h:Gd F W M tk)(b:Pu F W mb hb lb gb)(a n:Int)(h1:53248<=a)(h2:a<=57343)(d:0<=n/\n<=255)(y:bl a 32=4)(o1:et n=ξ)(o2:et (n/2)=ξ):Δ ω 94 #[J Y a,J au n,pt mb 0,pt hb 0,pt lb 0,pt gb 0] W λe w'=>e=μ (Ψ #[])/\Gd F w' (M.putM 4 n) tk/\Gt F W w':=by
 obtain⟨B,e1,x1⟩:=b.m;have k:mb≠F.g:=b.m.ne;have l:bG (mb≠F.g):=hid b.m.ne;have o:=h.at 41 (J Y M.t.r) D;have p:=h.at 42 (J Y M.t.c) D;have q:=h.at 43 (ν M.t.on) D;have s:=h.at 44 (ν M.t.g) D;have E:=h.bx.f;have I:=h.bx.z;have q1:bl n 2=0:=by rw[ak d.1];unfold et at o1;simp at o1;omega
 obtain⟨m,i,v,w⟩:∃ m,gB n 2=m/\0<=m/\m<=127:=⟨_,D,by rw[aF d.1];omega⟩
 have L:bl m 2=0:=by rw[<- i,aF d.1,ak (by omega)];unfold et at o2;simp at o2;omega
 have j:M.putM 4 n={ M with t:=⟨M.t.r,M.t.c,ξ,M.t.g⟩ }:=by
  show { M with t:=M.t.put n }=_;unfold TM.put;rw[o1,o2];rfl
 have x:=hid j;have H:=hid h;clear h b j o1 o2;go_enter func94,ntmps94;go_wp2_with (go_at_call 88;refine(Gm.reg3 a _ h1 h2).mono ?_;rintro e w1 ⟨rfl,rfl⟩)
 go_end0;rw[x.out];exact⟨D,H.out.put (tk':=tk) 43 _ (by omega) D ⟨D,D,D,D,D⟩ { H.out.fit with main:=H.out.fit.main },Gt.set H.out.nd (Gt.refl F W) _ _⟩
theorem Gm.putP401(h:Gd F W M tk)(b:Pu F W mb hb lb gb)(a n:Int)(h1:53248<=a)(h2:a<=57343)(d:0<=n/\n<=255)(y:bl a 32=4)(o1:et n=ξ)(o2:et (n/2)=Γ):Δ ω 94 #[J Y a,J au n,pt mb 0,pt hb 0,pt lb 0,pt gb 0] W λe w'=>e=μ (Ψ #[])/\Gd F w' (M.putM 4 n) tk/\Gt F W w':=by
 obtain⟨B,e1,x1⟩:=b.m;have k:mb≠F.g:=b.m.ne;have l:bG (mb≠F.g):=hid b.m.ne;have o:=h.at 41 (J Y M.t.r) D;have p:=h.at 42 (J Y M.t.c) D;have q:=h.at 43 (ν M.t.on) D;have s:=h.at 44 (ν M.t.g) D;have E:=h.bx.f;have I:=h.bx.z;have q1:bl n 2=0:=by rw[ak d.1];unfold et at o1;simp at o1;omega
 obtain⟨m,i,v,w⟩:∃ m,gB n 2=m/\0<=m/\m<=127:=⟨_,D,by rw[aF d.1];omega⟩
 have L:bl m 2=1:=by rw[<- i,aF d.1,ak (by omega)];unfold et at o2;simp at o2;omega
 have j:M.putM 4 n={ M with t:=⟨M.t.r,M.t.c,ξ,ξ⟩ }:=by
  show { M with t:=M.t.put n }=_;unfold TM.put;rw[o1,o2];rfl
 have x:=hid j;have H:=hid h;clear h b j o1 o2;go_enter func94,ntmps94;go_wp2_with (go_at_call 88;refine(Gm.reg3 a _ h1 h2).mono ?_;rintro e w1 ⟨rfl,rfl⟩)
 go_end0;rw[x.out];exact⟨D,(H.out.put (M':={ M with t:={ M.t with on:=ξ } }) (tk':=tk) 43 _ (by omega) D ⟨D,D,D,D,D⟩ { H.out.fit with main:=H.out.fit.main }).put (tk':=tk) 44 _ (by omega) D ⟨D,D,D,D,D⟩ { H.out.fit with main:=H.out.fit.main },Gt.set H.out.nd (Gt.set H.out.nd (Gt.refl F W) _ _) _ _⟩
theorem Gm.putP410(h:Gd F W M tk)(p:Pu F W mb hb lb gb)(a n:Int)(h1:53248<=a)(h2:a<=57343)(q:0<=n/\n<=255)(hk:bl a 32=4)(o1:et n=Γ)(o2:et (n/2)=ξ):Δ ω 94 #[J Y a,J au n,pt mb 0,pt hb 0,pt lb 0,pt gb 0] W λe w'=>e=μ (Ψ #[])/\Gd F w' (M.putM 4 n) tk/\Gt F W w':=by
 obtain⟨y1,e1,x1⟩:=p.m;have N:mb≠F.g:=p.m.ne;have j:bG (mb≠F.g):=hid p.m.ne;have P:=h.at 41 (J Y M.t.r) D;have R:=h.at 42 (J Y M.t.c) D;have T:=h.at 43 (ν M.t.on) D;have U:=h.at 44 (ν M.t.g) D;have ff:=h.bx.f;have hg:=h.bx.z;have q1:bl n 2=1:=by rw[ak q.1];unfold et at o1;simp at o1;omega
 obtain⟨m,s,X,Z⟩:∃ m,gB n 2=m/\0<=m/\m<=127:=⟨_,D,by rw[aF q.1];omega⟩
 have q2:bl m 2=0:=by rw[<- s,aF q.1,ak (by omega)];unfold et at o2;simp at o2;omega
 have B:M.putM 4 n={ M with t:=⟨M.t.r,M.t.r,Γ,M.t.g⟩ }:=by
  show { M with t:=M.t.put n }=_;unfold TM.put;rw[o1,o2];rfl
 have E0:=hid B;have H:=hid h;clear h p B o1 o2;go_enter func94,ntmps94;go_wp2_with (go_at_call 88;refine(Gm.reg3 a _ h1 h2).mono ?_;rintro e w1 ⟨rfl,rfl⟩)
 have i:bG (Gd F (W.setCell ⟨F.g,43,G⟩ (ν Γ)) { M with t:={ M.t with on:=Γ } } tk):=hid (H.out.put (M':={ M with t:={ M.t with on:=Γ } }) (tk':=tk) 43 _ (by omega) D ⟨D,D,D,D,D⟩ { H.out.fit with main:=H.out.fit.main });have E:(W.setCell ⟨F.g,43,G⟩ (ν Γ)).cell? ⟨mb,0,G⟩=A (pt F.g 0):=(Φ (f8 j.out)).trans e1;have I:bG (Gt F W (W.setCell ⟨F.g,43,G⟩ (ν Γ))):=hid (Gt.set H.out.nd (Gt.refl F W) 43 (ν Γ));have v:=i.out.at 41 (J Y M.t.r) D;have w:=i.out.at 42 (J Y M.t.c) D;have gX:=i.out.bx.z;have fX:=i.out.bx.f;generalize W.setCell ⟨F.g,43,G⟩ (ν Γ)=ι at *;refine wp_region_held_drew (S:=λw'=>w'.cell? ⟨mb,0,G⟩=A (pt F.g 0)) (by kernel_rfl) (E) ?_;intro b;refine bH 0 b ?_;refine bH 1 b ?_;refine bH 2 b ?_;refine bH 3 b ?_;refine bH 4 b ?_;refine gy 5 (λK k=>?_);go_simp;refine gL k (b) (λ_=>?_);clear k K;refine bH 6 b ?_;refine bH 7 b ?_;refine bH 8 b ?_;refine gy 9 (λK k=>?_);go_simp;refine gL k ((Φ (f8 j.out)).trans b) (λ_=>?_)
 clear k K;refine wpAnyH_done (by kernel_rfl) ?_ _;have L:bG (Gd F (ι.drew.setCell ⟨F.g,42,G⟩ (J Y M.t.r)) { M with t:=⟨M.t.r,M.t.r,Γ,M.t.g⟩ } tk):=hid (i.out.drew.put (M':={ M with t:=⟨M.t.r,M.t.r,Γ,M.t.g⟩ }) (tk':=tk) 42 _ (by omega) D ⟨D,D,D,D,D⟩ { i.out.fit with main:=i.out.fit.main,tr:=H.out.fit.tr,tc:=H.out.fit.tr });have l:bG (Gt F W (ι.drew.setCell ⟨F.g,42,G⟩ (J Y M.t.r))):=hid (Gt.set H.out.nd (Mv.drew I.out) 42 (J Y M.t.r));refine Pl.cutE (λV=>Gd F V { M with t:=⟨M.t.r,M.t.r,Γ,M.t.g⟩ } tk/\Gt F W V/\V.cell? ⟨mb,0,G⟩=A (pt F.g 0)) ⟨L.out,l.out,(Φ (f8 j.out)).trans b⟩ ?_;rintro V ⟨d,o,eV⟩;have x:=hid d;have y:=hid o;have v44:=d.at 44 (ν M.t.g) D;have vf:=d.bx.f;have vg:=d.bx.z;clear d o i I L l v w gX fX E b;go_wp2;go_end0;rw[E0.out];exact⟨D,x.out,y.out⟩
theorem Gm.putP411(h:Gd F W M tk)(q:Pu F W mb hb lb gb)(a n:Int)(h1:53248<=a)(h2:a<=57343)(s:0<=n/\n<=255)(hk:bl a 32=4)(o1:et n=Γ)(o2:et (n/2)=Γ):Δ ω 94 #[J Y a,J au n,pt mb 0,pt hb 0,pt lb 0,pt gb 0] W λe w'=>e=μ (Ψ #[])/\Gd F w' (M.putM 4 n) tk/\Gt F W w':=by
 obtain⟨y1,e1,x1⟩:=q.m;have N:mb≠F.g:=q.m.ne;have j:bG (mb≠F.g):=hid q.m.ne;have P:=h.at 41 (J Y M.t.r) D;have R:=h.at 42 (J Y M.t.c) D;have T:=h.at 43 (ν M.t.on) D;have U:=h.at 44 (ν M.t.g) D;have ff:=h.bx.f;have hg:=h.bx.z;have q1:bl n 2=1:=by rw[ak s.1];unfold et at o1;simp at o1;omega
 obtain⟨m,v,X,Z⟩:∃ m,gB n 2=m/\0<=m/\m<=127:=⟨_,D,by rw[aF s.1];omega⟩
 have q2:bl m 2=1:=by rw[<- v,aF s.1,ak (by omega)];unfold et at o2;simp at o2;omega
 have B:M.putM 4 n={ M with t:=⟨M.t.r,M.t.r,Γ,ξ⟩ }:=by
  show { M with t:=M.t.put n }=_;unfold TM.put;rw[o1,o2];rfl
 have E0:=hid B;have H:=hid h;clear h q B o1 o2;go_enter func94,ntmps94;go_wp2_with (go_at_call 88;refine(Gm.reg3 a _ h1 h2).mono ?_;rintro e w1 ⟨rfl,rfl⟩)
 have i:bG (Gd F (W.setCell ⟨F.g,43,G⟩ (ν Γ)) { M with t:={ M.t with on:=Γ } } tk):=hid (H.out.put (M':={ M with t:={ M.t with on:=Γ } }) (tk':=tk) 43 _ (by omega) D ⟨D,D,D,D,D⟩ { H.out.fit with main:=H.out.fit.main });have E:(W.setCell ⟨F.g,43,G⟩ (ν Γ)).cell? ⟨mb,0,G⟩=A (pt F.g 0):=(Φ (f8 j.out)).trans e1;have I:bG (Gt F W (W.setCell ⟨F.g,43,G⟩ (ν Γ))):=hid (Gt.set H.out.nd (Gt.refl F W) 43 (ν Γ));have w:=i.out.at 41 (J Y M.t.r) D;have x:=i.out.at 42 (J Y M.t.c) D;have gX:=i.out.bx.z;have fX:=i.out.bx.f;generalize W.setCell ⟨F.g,43,G⟩ (ν Γ)=ι at *;refine wp_region_held_drew (S:=λw'=>w'.cell? ⟨mb,0,G⟩=A (pt F.g 0)) (by kernel_rfl) (E) ?_;intro b;refine bH 0 b ?_;refine bH 1 b ?_;refine bH 2 b ?_;refine bH 3 b ?_;refine bH 4 b ?_;refine gy 5 (λK l=>?_);go_simp;refine gL l (b) (λ_=>?_);clear l K;refine bH 6 b ?_;refine bH 7 b ?_;refine bH 8 b ?_;refine gy 9 (λK l=>?_);go_simp;refine gL l ((Φ (f8 j.out)).trans b) (λ_=>?_)
 clear l K;refine wpAnyH_done (by kernel_rfl) ?_ _;have L:bG (Gd F (ι.drew.setCell ⟨F.g,42,G⟩ (J Y M.t.r)) { M with t:=⟨M.t.r,M.t.r,Γ,M.t.g⟩ } tk):=hid (i.out.drew.put (M':={ M with t:=⟨M.t.r,M.t.r,Γ,M.t.g⟩ }) (tk':=tk) 42 _ (by omega) D ⟨D,D,D,D,D⟩ { i.out.fit with main:=i.out.fit.main,tr:=H.out.fit.tr,tc:=H.out.fit.tr });have o:bG (Gt F W (ι.drew.setCell ⟨F.g,42,G⟩ (J Y M.t.r))):=hid (Gt.set H.out.nd (Mv.drew I.out) 42 (J Y M.t.r));refine Pl.cutE (λV=>Gd F V { M with t:=⟨M.t.r,M.t.r,Γ,M.t.g⟩ } tk/\Gt F W V/\V.cell? ⟨mb,0,G⟩=A (pt F.g 0)) ⟨L.out,o.out,(Φ (f8 j.out)).trans b⟩ ?_;rintro V ⟨d,p,eV⟩;have k:=hid d;have y:=hid p;have v44:=d.at 44 (ν M.t.g) D;have vf:=d.bx.f;have vg:=d.bx.z;clear d p i I L o w x gX fX E b;go_wp2;go_end0;rw[E0.out];exact⟨D,k.out.put (tk':=tk) 44 _ (by omega) D ⟨D,D,D,D,D⟩ { k.out.fit with main:=k.out.fit.main },Gt.set H.out.nd y.out _ _⟩
theorem Gm.putP4(h:Gd F W M tk)(b:Pu F W mb hb lb gb)(a n:Int)(h1:53248<=a)(h2:a<=57343)(c:0<=n/\n<=255)(d:bl a 32=4):Δ ω 94 #[J Y a,J au n,pt mb 0,pt hb 0,pt lb 0,pt gb 0] W λe w'=>e=μ (Ψ #[])/\Gd F w' (M.putM 4 n) tk/\Gt F W w':=by
 cases o1:et n <;> cases o2:et (n/2)
 ·exact Gm.putP400 h b a n h1 h2 c d o1 o2
 ·exact Gm.putP401 h b a n h1 h2 c d o1 o2
 ·exact Gm.putP410 h b a n h1 h2 c d o1 o2
 ·exact Gm.putP411 h b a n h1 h2 c d o1 o2
end
theorem zzH{W:u}{B:Nat}{v:Value}{L:List Nat}(h:W.ownsRow B 3 1 v L.length (ics L)):∃ sa a gl,v=.slice sa L.length a/\L.length<=a/\(L≠[]->sa=A ⟨gl,0,G⟩/\B<=gl/\Lst W gl L):=by
 by_cases b:L=[]
 ·obtain⟨sa,a,rfl⟩:=zj3 h
  exact⟨sa,a,0,D,by rw[b];exact bh _,λd=>absurd b d⟩
 ·obtain⟨gl,c,rfl,hb,e⟩:=Lst.of h b
  refine⟨_,c,gl,D,?_,λ_=>⟨D,hb,e⟩⟩;rcases h.2 with⟨h1,_⟩|⟨g,f,i,h1,_,_,d,_⟩
  ·cases h1
  ·simp only[iQ] at h1
   rw[h1.2.2];exact d
theorem zzI{m:List UInt8}{y:Nat}{ks:List Nat}{j k x:Nat}(a:ks[j]?=A k)(h:oB m y (ks.take j) x=ξ)(b:sxS m y k x≠0):oh m y ks x=if 128<=hwS m k/\gd m y x≠0 then gb m (160+gd m y x) else gb m (164+sxS m y k x):=by
 have c:=(ay.1 a).1;have d:=(ay.1 a).2;have e:ks=ks.take j++k::ks.drop (j+1):=by
  conv=>lhs;rw[<- mY j ks,dx c,d]
 unfold oB at h;have f:(ks.take j).find? (λk=>sxS m y k x != 0)=G:=by
  rw[gG];intro k a;rw[lP] at h;exact h k a
 have h1:(k::ks.drop (j+1)).find? (λk=>sxS m y k x != 0)=A k:=by simp[b]
 unfold oh;rw[e,jR,f,h1];rfl
theorem zor{m:List UInt8}{y:Nat}{ks:List Nat}{j k x:Nat}(a:ks[j]?=A k)(h:oB m y (ks.take j) x=ξ)(b:sxS m y k x=0):oB m y (ks.take (j+1)) x=ξ:=by
 rw[ek,a];show oB m y (ks.take j++[k]) x=ξ;rw[zO,h,b];rfl
theorem A0(m:List UInt8)(t x y:Nat):td m (t%16) x y=td m t x y:=by
 unfold td;rw[Nat.mod_mod]
structure LnW (w : u) (fo : Nat -> Nat) (gl : Nat) (L : List Nat) (W : u) : Prop where
 low:Below w.heap.size w W
 o:Bx W w.heap.size (bE fo)
 l:L≠[]->Lst W gl L
section
variable {w W w1 : u} {fo fo' : Nat -> Nat} {gl : Nat} {L : List Nat}
theorem LnW.kept(h:LnW w fo gl L W)(hb:Below W.heap.size W w1):LnW w fo gl L w1:=⟨bw h.low hb,h.o.kept hb,λa=>(h.l a).kept hb⟩
theorem LnW.congr(h:LnW w fo gl L W)(e:∀ x,x<16->fo x=fo' x):LnW w fo' gl L W:=⟨h.low,zP e ▸ h.o,h.l⟩
theorem LnW.put(h:LnW w fo gl L W)(c:L≠[]->w.heap.size<gl)(x n:Nat)(a:x<16):LnW w (λi=>if i=x then n else fo i) gl L (W.setCell ⟨w.heap.size,x,G⟩ (J au n)) :=
 ⟨Bl.set h.low (ψ _) _,yt fo x n a ▸ h.o.set x (J au n) (by rw[pw];exact a),λb=>(h.l b).far (i6 (c b)) _⟩
end
def xy(m:List UInt8)(y x n:Nat)(i:Nat):Nat:=if i=x then n else if i<x then px m y i else 0
theorem zfW(m:List UInt8)(y x n:Nat)(h:px m y x=n):∀ i,i<16->xy m y x n i=(λi=>if i<x+1 then px m y i else 0) i:=λi hi=>by
 unfold xy;by_cases e:i=x
 ·subst e;simp[h]
 ·simp only[ae e]
  by_cases a:i<x
  ·rw[am a,am (by omega)]
  ·rw[ae a,ae (by omega)]
theorem zuP(m:List UInt8)(y x n a:Nat):∀ i,i<16->(λi=>if i=x then a else xy m y x n i) i=xy m y x a i:=λi hi=>by
 unfold xy;by_cases e:i=x
 ·simp[e]
 ·simp[e]
theorem zrW(m:List UInt8)(v:Value)(g o c:Nat)(y:Nat)(w:u)(h:Mm w m v g o c)(hc256:256<=c)(hy:y<8):Δ ω 71 #[v,J Q y] w λe w'=>e=μ (ac (bE (px m y)).toArray)/\Below w.heap.size w w':=by
 have H:=hid h;obtain⟨rfl,hl,hz,hc⟩:=h;clear hc;obtain⟨L,hL⟩:∃ L,L=kq m y 8:=⟨_,D⟩
 obtain⟨ks,t⟩:∃ ks,ks=L.take 2:=⟨_,D⟩
 have HKs:bG (∀ k∈ks,k<8/\ru m y k=Γ):=λk hk=>by rw[t,hL] at hk;exact⟨zx9 (ia hk),zya (ia hk)⟩
 have T:bG (∀ x,px m y x=oh m y ks x):=λx=>by rw[t,hL];rfl
 have klen:ks.length<=2:=by rw[t,bD];omega
 have kle:ks.length<=L.length:=by rw[t,bD];omega
 have z:min (2:Int) (L.length:Int)=(ks.length:Int):=by rw[t,bD];omega
 have HAt:bG (∀ j k,ks[j]?=A k->L[j]?=A k):=λj k hj=>by
  rw[t,gF] at hj;split at hj
  ·exact hj
  ·cases hj
 have HL:=hid hL;have HMin:=hid z;clear hL t z;go_enter func71,ntmps71;go_upto_block 0 with(first
  | (go_at_call 134;refine(zoq m _ g o c y _ (H.out.kept (stA (aR w) _)) hy).mono ?_;rw[<- HL.out];rintro e w1 ⟨s,rfl,E,hb1⟩;have HO:=hid E;have HB:=hid hb1;obtain⟨sa,sc,gl,rfl,hsc,U⟩:=zzH E;have V:=hid U;have z:=HMin.out;have m1:(0:Int)<=ks.length:=Int.natCast_nonneg _;have m2:(ks.length:Int)<=sc:=Int.ofNat_le.2 (ax kle hsc);clear E hb1 U))
 have HD:bG (L≠[]->w.heap.size<gl):=λhn=>Θ (by simp) (V.out hn).2.1
 have HS:bG (L≠[]->sa=A ⟨gl,0,G⟩):=λhn=>(V.out hn).1
 have p:bG (LnW w (λi=>if i<0 then px m y i else 0) gl L w1):=⟨bw (stA (aR w) _) HB.out,((Bx.new w (bE λ_=>0) _ D).kept HB.out),λhn=>(V.out hn).2.2⟩
 clear V HO HB z;go_cut [24] (λ_ W=>LnW w (λi=>if i<16 then px m y i else 0) gl L W)
 case first =>
  go_wp2_with fail
  go_loopw [24] (λi W=>∃ x:Nat,x<=16/\i=J Q x/\LnW w (λi=>if i<x then px m y i else 0) gl L W) (λi _=>16-(intOf i).toNat)
  case atStart=>exact⟨0,bh _,D,p.out⟩
  case round =>
   clear p;obtain⟨x,hx,rfl,hW⟩:=hrel;have p:=hid hW;clear hW;by_cases r:x<16
   ·have h16':(x:Int)<16:=by omega
    go_upto_block 1 with fail
    go_cut [6] (λ_ W=>LnW w (λi=>if i<x+1 then px m y i else 0) gl L W)
    case first =>
     have HM:=hid (H.out.kept p.out.low);have c0:=HM.out.c 168 (by omega);have c1:=HM.out.c 169 (by omega);have b0:=jJ m 168;have b1:=jJ m 169;have w0:=AO m 168;have w1':=AO m 169;have w2:IntKind.i64.wrap ((x:Int)+(gb m 168:Nat))=(x:Int)+(gb m 168:Nat):=by rw[aH];omega
     have w3:IntKind.i64.wrap ((y:Int)+(gb m 169:Nat))=(y:Int)+(gb m 169:Nat):=by rw[aH];omega
     obtain⟨X,hX⟩:∃ X,X=(x+gb m 168)%16:=⟨_,D⟩
     obtain⟨ι,hY⟩:∃ ι,ι=(y+gb m 169)%16:=⟨_,D⟩
     have hXl:X<16:=by omega
     have hYl:ι<16:=by omega
     have HT:bG (td m (gb m (ι/4*4+X/4)%16) (X%4) (ι%4)=gd m y x):=by rw[A0,hX,hY];rfl
     have HX:=hid hX;have HY:=hid hY;clear hX hY;go_upto_region 6 with fail
     go_cut [7,8] (λvX vY W=>vX=J Q (X:Nat)/\vY=J Q (ι:Nat)/\LnW w (λi=>if i<x then px m y i else 0) gl L W)
     case first =>
      go_quiet (fail)
      rename_i hM;refine hM _ _ ?_;go_meet;exact⟨congrArg (Value.int Q) (by rw[HX.out];omega),congrArg (Value.int Q) (by rw[HY.out];omega),p.out.kept (Bl.drewN (aR _) _)⟩
     case rest =>
     obtain⟨rfl,rfl,hW⟩:=hcut;clear p HM c0 c1 b0 b1 w0 w1' w2 w3 HX HY;have p:=hid hW;clear hW;have hgd:=xQ m y x;have c0:=(H.out.kept p.out.low).c (ι/4*4+X/4) (by omega);have b0:=jJ m (ι/4*4+X/4);have xm:X%4<4:=j8 _ (by decide);have ym:ι%4<4:=j8 _ (by decide);have tm:gb m (ι/4*4+X/4)%16<16:=j8 _ (by decide);go_upto_block 2 with(go_at_call 135;refine(AZ m _ g o c (gb m (ι/4*4+X/4)%16) (X%4) (ι%4) _ (H.out.kept p.out.low) tm xm ym).mono ?_;rw[HT.out];rintro e w2 ⟨rfl,hb2⟩;have F:=hid (p.out.kept hb2);have co:=F.out.o.at x _ (tN _ r);have fo:=F.out.o.f x;have cm:=(H.out.kept F.out.low).c (160+gd m y x) (by omega);clear hb2)
     have HW4:bG (LnW w (xy m y x (gb m (160+gd m y x))) gl L (w2.setCell ⟨w.heap.size,x,G⟩ (J au (gb m (160+gd m y x))))):=F.out.put HD.out x _ r;clear p F co fo cm c0 b0 xm ym tm;go_wp2_with fail
     go_loopw [67] (λi W=>∃ j:Nat,j<=ks.length/\i=J Q j/\bG (oB m y (ks.take j) x=ξ)/\LnW w (xy m y x (gb m (160+gd m y x))) gl L W) (λi _=>ks.length-(intOf i).toNat)
     case atStart=>exact⟨0,bh _,D,(D:oB m y (ks.take 0) x=ξ),HW4.out⟩
     case round =>
      clear HW4;obtain⟨j,hj,rfl,B,hW⟩:=hrel;have p:=hid hW;clear hW;by_cases Z:j<ks.length
      ·have hjl':(j:Int)<ks.length:=by omega
       have hLn:L≠[]:=λh=>by rw[h] at kle;have:ks.length<=0:=kle;omega
       have U:=HS.out hLn;have HDl:=hid (HD.out hLn);subst U;obtain⟨k,hk⟩:∃ k,ks[j]?=A k:=⟨ks[j],aq Z⟩
       have HK:=hid hk;have HK8:=hid (HKs.out k (bu hk));have hk8:=HK8.out.1;have cl:=(p.out.l hLn).c j k (HAt.out j k hk);clear hk;have cne:¬ (c=128+4*k):=by omega
       have HL1:=hid (λq=>zqn m _ g o c k y (wr.drewN q) ((H.out.kept p.out.low).kept (Bl.drewN (aR wr) q)) hk8 hy);have HLi:bG (∀ q,Δ ω 136 #[.slice (A ⟨g,o,G⟩) 256 c,J Q k,J Q y] (wr.drewN q) λe w'=>e=μ (J Q (ta m k y))/\w'=wr.drewN q):=λq=>(HL1.out q).mono λe w' hh=>⟨hh.1,hh.2.symm⟩
       have d1:=(H.out.kept p.out.low).c (128+4*k+1) (by omega);have hcl0:clS m k=gb m (128+4*k+1):=by unfold clS;rw[show 129+4*k=128+4*k+1 by omega]
       rw[<- hcl0,<- dS] at d1;have hclb:clS m k<256:=jJ ..;have l1:(1:Int)<((256-(128+4*k):Nat):Int):=by omega
       have w1':IntKind.i64.wrap (clS m k:Int)=(clS m k:Int):=by rw[aH];omega
       have w2':IntKind.i64.wrap ((x:Int)-(clS m k:Nat))=(x:Int)-(clS m k:Nat):=by rw[aH];omega
       clear hcl0;go_upto_region 13 with fail
       go_cut [13,14] (λvc vr W=>vc=J Q ((x:Int)-(clS m k:Nat))/\vr=J Q (ta m k y)/\LnW w (xy m y x (gb m (160+gd m y x))) gl L W)
       case first =>
        go_quiet ((go_at_call 136;exact Calls.quiet_of_same (HLi.out _)))
        rename_i hM;refine hM _ _ ?_;go_meet;exact⟨D,D,p.out.kept (Bl.drewN (aR _) _)⟩
       case rest =>
       obtain⟨rfl,rfl,hWc⟩:=hcut;have b:=hid hWc;clear hWc p d1 cl l1 w1' w2' HL1 HLi;by_cases hlo:x<clS m k
       ·have t1:(x:Int)-(clS m k:Nat)<0:=by omega
        have I:=hid (zor HK.out B.out (zqf (by omega)));go_wp2;exact⟨⟨j+1,Z,by go_num,I,b.out⟩,by simp[intOf];omega⟩
       ·have t1:¬ (x:Int)-(clS m k:Nat)<0:=by omega
        by_cases hhi:clS m k+4<=x
        ·have t2:(3:Int)<(x:Int)-(clS m k:Nat):=by omega
         have I:=hid (zor HK.out B.out (zqf (by omega)));go_wp2;exact⟨⟨j+1,Z,by go_num,I,b.out⟩,by simp[intOf];omega⟩
        ·obtain⟨C,hC⟩:∃ C,C=x-clS m k:=⟨_,D⟩
         obtain⟨R,hR⟩:∃ R,R=y-lnS m k:=⟨_,D⟩
         have hon:=HK8.out.2;have hon':lnS m k<=y/\y<lnS m k+4:=by unfold ru at hon;exact du hon
         have HSxe:bG (sxS m y k x=sdS m y k C):=by unfold sxS;rw[am (by omega),hC];rfl
         have HR:bG (y-lnS m k=R):=hR.symm;have eC:(x:Int)-(clS m k:Nat)=(C:Int):=by omega
         have eR:ta m k y=(R:Int):=by unfold ta;rw[am hon];omega
         have hC4:C<4:=by omega
         have hR4:R<4:=by omega
         rw[eC,eR];have HC3:bG (((3-C:Nat):Int)=3-(C:Int)):=by unfold bG;omega
         have HR3:bG (((3-R:Nat):Int)=3-(R:Int)):=by unfold bG;omega
         have t3:¬ (C:Int)<0:=by omega
         have t4:¬ (3:Int)<(C:Int):=by omega
         have M:bG (gb m (128+4*k+3)=hwS m k):=by unfold hwS;rw[show 131+4*k=128+4*k+3 by omega];rfl
         have ti2:bG (gb m (128+4*k+2)=kW m k):=by unfold kW;rw[show 130+4*k=128+4*k+2 by omega];rfl
         have d3:=(H.out.kept b.out.low).c (128+4*k+3) (by omega);have d2:=(H.out.kept b.out.low).c (128+4*k+2) (by omega);rw[M.out,<- dS] at d3;rw[ti2.out,<- dS] at d2;have hwb:hwS m k<256:=jJ ..;have tib:kW m k<256:=jJ ..;have tm:kW m k%16<16:=j8 _ (by decide);have hsl:=zBj m y k x;clear hC hR hon hon' eC eR hlo hhi t1;have hq:∃(p1 p2:Bool) (C' R':Nat),((hwS m k:Int)%2 == 1)=p1/\((hwS m k:Int)/2%2 == 1)=p2/\C'<4/\R'<4/\(C':Int)=cond p1 (3-(C:Int)) C/\(R':Int)=cond p2 (3-(R:Int)) R/\td m (kW m k%16) C' R'=sxS m y k x:=by
          rw[HSxe.out];unfold sdS rwS;rw[HR.out];by_cases hcl:hwS m k%2=1 <;> by_cases hrw:hwS m k/2%2=1
          ·exact⟨Γ,Γ,3-C,3-R,by simp;omega,by simp;omega,by omega,by omega,HC3.out,HR3.out,by rw[A0,am hcl,am hrw]⟩
          ·exact⟨Γ,ξ,3-C,R,by simp;omega,by simp;omega,by omega,hR4,HC3.out,D,by rw[A0,am hcl,ae hrw]⟩
          ·exact⟨ξ,Γ,C,3-R,by simp;omega,by simp;omega,hC4,by omega,D,HR3.out,by rw[A0,ae hcl,am hrw]⟩
          ·exact⟨ξ,ξ,C,R,by simp;omega,by simp;omega,hC4,hR4,D,D,by rw[A0,ae hcl,ae hrw]⟩
         obtain⟨p1,p2,C',R',q1,q2,hC',hR',eC,eR,hSx⟩:=hq;have HSx:=hid hSx;clear hSx;cases p1 <;> cases p2
         all_goals
          dsimp only[cond] at eC eR;have HEC:=hid eC;have HER:=hid eR;clear eC eR;by_cases N:sxS m y k x=0
          ·have s0:((sxS m y k x:Int) == 0)=Γ:=by rw[N];rfl
           have I:=hid (zor HK.out B.out N);clear N;go_wp2_with (go_at_call 135;rw[<- HEC.out];rw[<- HER.out];refine(AZ m _ g o c (kW m k%16) C' R' _ (H.out.kept b.out.low) tm hC' hR').mono ?_;rw[HSx.out];rintro e w5 ⟨rfl,d⟩;have a:=hid (b.out.kept d);have co:=a.out.o.at x _ (tN _ r);have fo:=a.out.o.f x;have n:=((H.out.kept a.out.low).c (128+4*k+3) (by omega));have cm:=(H.out.kept a.out.low).c (164+sxS m y k x) (by omega);rw[<- dS] at n;rw[M.out] at n;clear d)
           exact⟨⟨j+1,Z,by go_num,I,a.out⟩,by simp[intOf];omega⟩
          ·have s0:((sxS m y k x:Int) == 0)=ξ:=by simp;omega
           have HHit:=hid (zzI HK.out B.out N);clear N;by_cases hbh:128<=hwS m k
           ·have s1:¬ (hwS m k:Int)<128:=by omega
            by_cases P:gd m y x=0
            ·have s2:((gd m y x:Int) == 0)=Γ:=by rw[P];rfl
             have HFin:bG (px m y x=gb m (164+sxS m y k x)):=by rw[T.out,HHit.out,ae (λhh=>hh.2 P)];rfl
             clear P;go_wp2_with (go_at_call 135;rw[<- HEC.out];rw[<- HER.out];refine(AZ m _ g o c (kW m k%16) C' R' _ (H.out.kept b.out.low) tm hC' hR').mono ?_;rw[HSx.out];rintro e w5 ⟨rfl,d⟩;have a:=hid (b.out.kept d);have co:=a.out.o.at x _ (tN _ r);have fo:=a.out.o.f x;have n:=((H.out.kept a.out.low).c (128+4*k+3) (by omega));have cm:=(H.out.kept a.out.low).c (164+sxS m y k x) (by omega);rw[<- dS] at n;rw[M.out] at n;clear d)
             go_meet;exact((a.out.put HD.out x _ r).congr (zuP m y x _ _)).congr (zfW m y x _ HFin.out)
            ·have s2:((gd m y x:Int) == 0)=ξ:=by simp;omega
             have HFin:bG (px m y x=gb m (160+gd m y x)):=by rw[T.out,HHit.out,am ⟨hbh,P⟩];rfl
             clear P;go_wp2_with (go_at_call 135;rw[<- HEC.out];rw[<- HER.out];refine(AZ m _ g o c (kW m k%16) C' R' _ (H.out.kept b.out.low) tm hC' hR').mono ?_;rw[HSx.out];rintro e w5 ⟨rfl,d⟩;have a:=hid (b.out.kept d);have co:=a.out.o.at x _ (tN _ r);have fo:=a.out.o.f x;have n:=((H.out.kept a.out.low).c (128+4*k+3) (by omega));have cm:=(H.out.kept a.out.low).c (164+sxS m y k x) (by omega);rw[<- dS] at n;rw[M.out] at n;clear d)
             go_meet;exact a.out.congr (zfW m y x _ HFin.out)
           ·have s1:(hwS m k:Int)<128:=by omega
            have HFin:bG (px m y x=gb m (164+sxS m y k x)):=by rw[T.out,HHit.out,ae (λhh=>hbh hh.1)];rfl
            go_wp2_with (go_at_call 135;rw[<- HEC.out];rw[<- HER.out];refine(AZ m _ g o c (kW m k%16) C' R' _ (H.out.kept b.out.low) tm hC' hR').mono ?_;rw[HSx.out];rintro e w5 ⟨rfl,d⟩;have a:=hid (b.out.kept d);have co:=a.out.o.at x _ (tN _ r);have fo:=a.out.o.f x;have n:=((H.out.kept a.out.low).c (128+4*k+3) (by omega));have cm:=(H.out.kept a.out.low).c (164+sxS m y k x) (by omega);rw[<- dS] at n;rw[M.out] at n;clear d)
            go_meet;exact((a.out.put HD.out x _ r).congr (zuP m y x _ _)).congr (zfW m y x _ HFin.out)
      ·have hj9:¬ (j:Int)<ks.length:=by omega
       have ej:ks.take j=ks:=dY (by omega);rw[ej] at B;clear ej;go_wp2;go_meet;exact p.out.congr (zfW m y x _ (by rw[T.out,zqd B.out]))
    case rest =>
    have HWr:=hid hcut;clear hcut p;go_wp2;exact⟨⟨x+1,r,by go_num,HWr.out⟩,by simp[intOf];omega⟩
   ·have h17:¬ (x:Int)<16:=by omega
    have e16:x=16:=by omega
    subst e16;go_wp2;go_meet;exact p.out
 case rest =>
 have HF:=hid (hcut.congr (fo':=px m y) (λx hx=>am hx));clear hcut p;go_wp2_with (first
  | (refine vj D _ D _ _ D HF.out.o ?_)
  | (refine tx D _ _ D w.heap.size (px m y) _ D D HF.out.o ?_;rintro w' hw' hB';have HB':=hid hB';have HW':=hid hw';clear hB' hw'))
 have hl:=vk HB'.out;refine Ξ (v:=ac (bE (px m y)).toArray) ?_ D ⟨D,?_⟩
 ·simp only[results,results71]
  simp;exact hl
 ·rw[HW'.out];exact Bl.puts HF.out.low (ψ _) _
end Go.Proofs.YthghjlinhokimaaGreatDoor
