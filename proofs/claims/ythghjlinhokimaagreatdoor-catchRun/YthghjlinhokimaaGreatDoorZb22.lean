/-
  Parts of a proof, joined.
-/
import Derived.Test.YthghjlinhokimaaGreatDoorZbA
import Derived.Test.YthghjlinhokimaaGreatDoorZb17
import Derived.Test.YthghjlinhokimaaGreatDoorZb19
set_option linter.all false
set_option maxRecDepth 100000
set_option maxHeartbeats 1600000
open Option renaming none->G,some->A
open Go renaming World->u,Value->π,Calls->Δ,binOp->fG
open Bool renaming false->ξ,true->Γ
open Go.Proofs.Tryz renaming prog->ω
open Go.Act renaming put->ag
open Int renaming tmod->bl
open Go.Addr renaming off->li
open Go.Value renaming int->J,bool->ν,tuple->Ψ,agg->ac,nilFunc->aI
open Go.Ending renaming returned->μ
open Go.IntKind renaming u16->Y,u8->au
namespace Go.Proofs.YthghjlinhokimaaGreatDoor
open Go.ChangeShapes Go.WideShapes Go.ChangeAt Go.RowKit Go.Proofs.Tryz
section
variable {F : Fx} {W : u} {M M' : Mach} {tk : Tk}
theorem wu(M:Mach)(a:Int):0<=M.lookA a/\M.lookA a<=255:=by
 unfold Mach.lookA mM;split
 ·split
  ·exact zi _ _
  ·omega
 ·split
  ·exact zi _ _
  ·split
   ·split
    ·exact zi _ _
    ·omega
   ·omega
theorem ziq(a:Int)(f:0<=a/\a<=1):kP F M tk 143 a (M.lookA a):=by
 intro W h;have c:dP a=ξ:=by unfold dP;exact aG (by omega)
 have d:=hid (zlw h a (by omega));have b:=hid c;have H:=hid h;clear h c;go_enter func132,ntmps132;go_wp2_with (first
  | (go_at_call 212;refine(ry a _ (by omega)).mono ?_;rw[b.out];rintro e w1 ⟨rfl,rfl⟩)
  | (go_at_call 214;refine d.out.mono ?_;rintro e w1 ⟨rfl,rfl⟩))
 go_ret;exact⟨D,H.out,Bt.refl _ _⟩
theorem zir(a:Int)(f:0<=a/\a<=1):kP F M tk 77 a (M.lookM a):=by
 intro W h;have c:dP a=ξ:=by unfold dP;exact aG (by omega)
 have d:=hid (zgf h a (by omega));have b:=hid c;have H:=hid h;clear h c;go_enter func132,ntmps132;go_wp2_with (first
  | (go_at_call 212;refine(ry a _ (by omega)).mono ?_;rw[b.out];rintro e w1 ⟨rfl,rfl⟩)
  | (go_at_call 214;refine d.out.mono ?_;rintro e w1 ⟨rfl,rfl⟩))
 go_ret;exact⟨D,H.out,Bt.refl _ _⟩
theorem zlA(h:M.fit)(n:Int):(M.grant n).fit:={ h with main:=h.main }
theorem AB(x y:Int)(b:0<=x/\x<=255)(c:0<=y/\y<=255):(gM x y).ok:=by
 refine⟨D,λz a=>?_,?_,?_⟩
 ·have:z=0:=by
   simp only[gM,C.Cpu.zero,bp,cz,gC] at a;omega
  omega
 ·show 0<=x*256+y;omega
 ·show x*256+y<=65535;omega
theorem ztK(h:Bd F W M tk)(n:Int)(c:0<=n/\n<=255)(a:(M.held && !(et (n/2)))=ξ):Δ ω 194 #[pt F.g 0,J au n] W λe w'=>e=μ (Ψ #[])/\Bd F w' (M.putM 16 n) tk/\Bt F W w':=by
 have c0:=h.at 67 (ν M.granted) D;have c1:=h.at 68 (ν M.held) D;have j:=h.bx.f;have k:=h.bx.z;have H:=hid h;have a1:=zfN n c;have a2:=zjH n c;have d:M.putM 16 n=M.grant n:=by show M.letGo n=_;unfold Mach.letGo;rw[ae (by rw[a];decide)]
 rw[d];have hp:Bd F ((W.setCell ⟨F.g,67,G⟩ (ν (et n))).setCell ⟨F.g,68,G⟩ (ν (et (n/2)))) (M.grant n) tk :=
  (h.put (M':={ M with granted:=et n }) (tk':=tk) 67 _ (by omega) D ⟨D,D,D,D,D⟩ { h.fit with main:=h.fit.main }).put 68 _ (by omega) D ⟨D,D,D,D,D⟩ (zlA h.fit n)
 have b:=hid hp;clear h d hp;generalize M.held=i at *;rcases zt n with⟨p,q⟩|⟨p,q⟩
 all_goals
  rw[p] at a1;rw[q] at b;rcases zt (n/2) with⟨r,s⟩|⟨r,s⟩
 all_goals
  rw[r] at a2;rw[s] at b a;clear p q r s;cases i
 all_goals first
  | (exfalso;revert a;decide)
  | (clear a
     go_enter func194,ntmps194;go_wp2;go_end0;exact⟨D,b.out,((Bt.refl _ _).set H.out.nd _ _).set H.out.nd _ _⟩)
end
section
variable {F : Fx} {W : u} {M M' : Mach} {tk : Tk}
theorem Bd.auxC(h:Bd F W M tk):W.cell? ⟨F.g,15,G⟩=A (J Y (M.aux.r 0))/\W.cell? ⟨F.g,16,G⟩=A (J Y (M.aux.r 1))/\W.cell? ⟨F.g,17,G⟩=A (J Y (M.aux.r 2))/\W.cell? ⟨F.g,18,G⟩=A (J Y (M.aux.r 3))/\W.cell? ⟨F.g,19,G⟩=A (J Y (M.aux.r 4))/\W.cell? ⟨F.g,20,G⟩=A (J Y (M.aux.r 5))/\W.cell? ⟨F.g,21,G⟩=A (J Y (M.aux.r 6))/\W.cell? ⟨F.g,22,G⟩=A (J Y (M.aux.r 7))/\W.cell? ⟨F.g,23,G⟩=A (J Y M.aux.PC)/\W.cell? ⟨F.g,24,G⟩=A (ν M.aux.Z)/\W.cell? ⟨F.g,25,G⟩=A (ν M.aux.N)/\W.cell? ⟨F.g,26,G⟩=A (ν M.aux.C)/\W.cell? ⟨F.g,27,G⟩=A (ν M.aux.V)/\W.cell? ⟨F.g,28,G⟩=A (ν M.aux.May)/\W.cell? ⟨F.g,29,G⟩=A (ν M.aux.Waits)/\W.cell? ⟨F.g,72,G⟩=A (J .i64 M.clock)/\W.cell? ⟨F.g,74,G⟩=A (J .i64 M.aready)/\(∀ o,W.frozen? ⟨F.g,o,G⟩=ξ)/\F.g<W.heap.size :=
 ⟨h.at 15 _ rfl,h.at 16 _ rfl,h.at 17 _ rfl,h.at 18 _ rfl,h.at 19 _ rfl,h.at 20 _ rfl,h.at 21 _ rfl,h.at 22 _ rfl,h.at 23 _ rfl,h.at 24 _ rfl,h.at 25 _ rfl,h.at 26 _ rfl,h.at 27 _ rfl,h.at 28 _ rfl,h.at 29 _ rfl,h.at 72 _ rfl,h.at 74 _ rfl,h.bx.f,h.bx.z⟩
theorem zlC(h:Bd F W M tk)(o:Nat)(a x1:Int)(b:kP F M tk o 0 a)(h1:kP F M tk o 1 x1)(b0:0<=a/\a<=255)(b1:0<=x1/\x1<=255):Δ ω 68 #[lX F.g o] W λe w'=>e=μ (ac #[J Y 0,J Y 0,J Y 0,J Y 0,J Y 0,J Y 0,J Y 0,J Y 0,J Y (a*256+x1),ν ξ,ν ξ,ν ξ,ν ξ,ν ξ,ν ξ])/\Bd F w' M tk/\Bt F W w':=zfw h o a x1 b h1 b0 b1
theorem zlD{b i:Nat}{v:π}:∀(vs:List π) (o:Nat) (w:u),o+vs.length<=i->w.cell? ⟨b,i,G⟩=A v->(w.setCells b o vs).cell? ⟨b,i,G⟩=A v
 | [],o,w,a,h=>h
 | x::vs,o,w,a,h=>by
  simp only[cy] at a;exact zlD vs (o+1) _ (by omega) ((ap _ _ _ _ (by intro e;have:=congrArg li e;simp at this;omega)).trans h)
theorem zy4{w:u}{b i j:Nat}{v θ:π}(a:i≠j)(h:w.cell? ⟨b,j,G⟩=A θ):(w.setCell ⟨b,i,G⟩ v).drew.cell? ⟨b,j,G⟩=A θ :=
 (ap _ _ _ _ (by intro e;exact a (congrArg li e))).trans h
theorem vF(w:u)(b:Nat)(v0 g v2 v3 v4 v5 h i j v9 a c d e f:π):w.setCells b 15 [v0,g,v2,v3,v4,v5,h,i,j,v9,a,c,d,e,f]=(((((((((((((((w.setCell ⟨b,15,G⟩ v0).setCell ⟨b,16,G⟩ g).setCell ⟨b,17,G⟩ v2).setCell ⟨b,18,G⟩ v3).setCell ⟨b,19,G⟩ v4).setCell ⟨b,20,G⟩ v5).setCell ⟨b,21,G⟩ h).setCell ⟨b,22,G⟩ i).setCell ⟨b,23,G⟩ j).setCell ⟨b,24,G⟩ v9).setCell ⟨b,25,G⟩ a).setCell ⟨b,26,G⟩ c).setCell ⟨b,27,G⟩ d).setCell ⟨b,28,G⟩ e).setCell ⟨b,29,G⟩ f):=by simp only[World.setCells,Nat.reduceAdd]
theorem sr{w:u}{b:Nat}{θ v0 g v2 v3 v4 v5 i j k v9 a c d e f:π}(h:w.cell? ⟨b,72,G⟩=A θ):(((((((((((((((w.setCell ⟨b,15,G⟩ v0).setCell ⟨b,16,G⟩ g).setCell ⟨b,17,G⟩ v2).setCell ⟨b,18,G⟩ v3).setCell ⟨b,19,G⟩ v4).setCell ⟨b,20,G⟩ v5).setCell ⟨b,21,G⟩ i).setCell ⟨b,22,G⟩ j).setCell ⟨b,23,G⟩ k).setCell ⟨b,24,G⟩ v9).setCell ⟨b,25,G⟩ a).setCell ⟨b,26,G⟩ c).setCell ⟨b,27,G⟩ d).setCell ⟨b,28,G⟩ e).setCell ⟨b,29,G⟩ f).cell? ⟨b,72,G⟩=A θ:=by
 rw[<- vF];exact zlD _ 15 w (by simp) h
theorem wM{w:u}{b:Nat}{θ x v0 g v2 v3 v4 v5 i j k v9 a c d e f:π}(h:w.cell? ⟨b,72,G⟩=A θ):((((((((((((((((w.setCell ⟨b,15,G⟩ v0).setCell ⟨b,16,G⟩ g).setCell ⟨b,17,G⟩ v2).setCell ⟨b,18,G⟩ v3).setCell ⟨b,19,G⟩ v4).setCell ⟨b,20,G⟩ v5).setCell ⟨b,21,G⟩ i).setCell ⟨b,22,G⟩ j).setCell ⟨b,23,G⟩ k).setCell ⟨b,24,G⟩ v9).setCell ⟨b,25,G⟩ a).setCell ⟨b,26,G⟩ c).setCell ⟨b,27,G⟩ d).setCell ⟨b,28,G⟩ e).setCell ⟨b,29,G⟩ f).setCell ⟨b,74,G⟩ x).drew.cell? ⟨b,72,G⟩=A θ:=zy4 (by omega) (sr h)
theorem wN{w:u}{b:Nat}{θ x v0 i v2 v3 v4 v5 j k l v9 a c d f g:π}(h:w.cell? ⟨b,72,G⟩=A θ):((((((((((((((((w.setCell ⟨b,15,G⟩ v0).setCell ⟨b,16,G⟩ i).setCell ⟨b,17,G⟩ v2).setCell ⟨b,18,G⟩ v3).setCell ⟨b,19,G⟩ v4).setCell ⟨b,20,G⟩ v5).setCell ⟨b,21,G⟩ j).setCell ⟨b,22,G⟩ k).setCell ⟨b,23,G⟩ l).setCell ⟨b,24,G⟩ v9).setCell ⟨b,25,G⟩ a).setCell ⟨b,26,G⟩ c).setCell ⟨b,27,G⟩ d).setCell ⟨b,28,G⟩ f).setCell ⟨b,29,G⟩ g).setCell ⟨b,74,G⟩ x).cell? ⟨b,72,G⟩=A θ:=(ap _ _ _ _ (by intro e;have:=congrArg li e;simp at this)).trans (sr h)
theorem ztL(h:Bd F W M tk)(n:Int)(L:0<=n/\n<=255)(s:(M.held && !(et (n/2)))=Γ):Δ ω 194 #[pt F.g 0,J au n] W λe w'=>e=μ (Ψ #[])/\Bd F w' (M.putM 16 n) tk/\Bt F W w':=by
 have c0:=h.at 67 (ν M.granted) D;have c1:=h.at 68 (ν M.held) D;have T:=h.bx.f;have U:=h.bx.z;have H:=hid h;have a1:=zfN n L;have a2:=zjH n L;have N:M.putM 16 n={ M.grant n with aux:=gM ((M.grant n).lookA 0) ((M.grant n).lookA 1),aready:=M.clock }:=by show M.letGo n=_;unfold Mach.letGo;rw[am s]
 rw[N];have hp:Bd F ((W.setCell ⟨F.g,67,G⟩ (ν (et n))).setCell ⟨F.g,68,G⟩ (ν (et (n/2)))) (M.grant n) tk :=
  (h.put (M':={ M with granted:=et n }) (tk':=tk) 67 _ (by omega) D ⟨D,D,D,D,D⟩ { h.fit with main:=h.fit.main }).put 68 _ (by omega) D ⟨D,D,D,D,D⟩ (zlA h.fit n)
 have w:=hid hp;have j:(M.grant n).clock=M.clock:=D;rw[<- j];have HF:=hid h.fit;clear h N hp j;generalize P:M.grant n=ε at *;have HG:=hid P;clear P;have R:M.held=Γ:=by revert s;cases M.held <;> simp
 have x:et (n/2)=ξ:=by revert s;cases M.held <;> cases et (n/2) <;> simp
 rw[R] at c1;have r:n/2%2=0:=by rcases zt (n/2) with⟨p,q⟩|⟨p,q⟩;exact p;rw[x] at q;cases q
 rw[r] at a2;rw[x] at w;clear s R x r;rcases zt n with⟨p,q⟩|⟨p,q⟩
 all_goals
  rw[p] at a1;rw[q] at w;clear p q;go_enter func194,ntmps194;go_wp2;refine Pl.cutW (λι=>Bd F ι ε tk/\Bt F W ι) ⟨w.out,((Bt.refl _ _).set H.out.nd _ _).set H.out.nd _ _⟩ ?_;rintro ι ⟨c,k⟩;have l:=hid c;have y:=hid k;obtain⟨_,_,_,_,_,_,_,_,_,_,_,_,_,_,_,V,ar,yf,yg⟩:=c.auxC;clear c k T c0 c1 U;go_region_held3 (λw'=>w'.cell? ⟨F.g,72,G⟩=A (J .i64 ε.clock))
   ((first|(with_reducible exact b)|(with_reducible exact B)|(with_reducible exact V)|(with_reducible exact sr b)|(with_reducible exact wM b)|(with_reducible exact wN b)|(go_keep;done)))
   ((first
   | (go_at_call 68;refine(zlC d.out 143 _ _ (ziq 0 (by omega)) (ziq 1 (by omega)) (wu _ _) (wu _ _)).mono ?_;rintro e w2 ⟨rfl,i,m⟩;have a:=hid i;have E:=hid m;obtain⟨z0,z1,z2,z3,z4,z5,z6,z7,z8,z9,X,Z,z12,z13,z14,b,zar,zf,zg⟩:=i.auxC;clear i m)
   | (go_at_call 114;refine(zip F.g _).mono ?_;rintro e w1 ⟨rfl,o⟩;have d:=hid (l.out.drew.kept o);have B:=d.out.at 72 _ D;have yg1:=d.out.bx.z)))
  all_goals go_wp2
  all_goals go_end0
  all_goals
   have t:Mach.fit { ε with aux:=gM (ε.lookA 0) (ε.lookA 1) }:=Mach.fit.of a.out.fit { a.out.fit with aux:=AB _ _ (wu _ _) (wu _ _) } ⟨D,D,D,D,D⟩ D ⟨D,D,D⟩ ⟨D,D⟩ (Or.inl D);have I:Mach.fit { ε with aux:=gM (ε.lookA 0) (ε.lookA 1),aready:=ε.clock }:=Mach.fit.of t { t with main:=t.main } ⟨D,D,D,D,D⟩ D ⟨D,D,D⟩ ⟨D,D⟩ (Or.inr D);have hp:=(a.out.puts (M':={ ε with aux:=gM (ε.lookA 0) (ε.lookA 1) }) (tk':=tk) 15 (bY (gM (ε.lookA 0) (ε.lookA 1))) (by simp[bY]) (F.putAux ε tk _) ⟨D,D,D,D,D⟩ t).put (M':={ ε with aux:=gM (ε.lookA 0) (ε.lookA 1),aready:=ε.clock }) (tk':=tk) 74 (J .i64 ε.clock) (by omega) D ⟨D,D,D,D,D⟩ I;have v:=Bt.set a.out.nd (Bt.sets a.out.nd (bY (gM (ε.lookA 0) (ε.lookA 1))) 15 _ (Mv.trans y.out (Mv.trans (Bt.below l.out (bw (aR ι).drew o)) E.out))) 74 (J .i64 ε.clock);rw[<- znZ] at hp v;unfold j5 at hp v;rw[vF] at hp v;exact⟨D,hp,v⟩
theorem zwl(h:Bd F W M tk)(n:Int)(a:0<=n/\n<=255):Δ ω 194 #[pt F.g 0,J au n] W λe w'=>e=μ (Ψ #[])/\Bd F w' (M.putM 16 n) tk/\Bt F W w':=by
 cases b:(M.held && !(et (n/2)))
 ·exact ztK h n a b
 ·exact ztL h n a b
end
section
variable {F : Fx} {W : u} {M M' : Mach} {tk tk' : Tk}
theorem yJ(n:Nat)(a b:Array π)(w:u):(fG .neq 135 (.func (.func n) a b) aI).run ω w=.ok (ν Γ) w:=by kernel_rfl
theorem Cb(w:u):(fG .neq 135 aI aI).run ω w=.ok (ν ξ) w:=by kernel_rfl
theorem qq(a:π)(n:Int)(h:Bd F W M tk):Δ ω 215 #[ac #[a,aI],J au n] W λe w'=>e=μ (Ψ #[])/\Bd F w' M tk/\Bt F W w':=by
 have b:=Cb;have H:=hid h;clear h;go_enter func215,ntmps215;go_wp2;go_end0;exact⟨D,H.out.over _,Mv.of_below H.out.big (stA (aR _) _)⟩
theorem zw(g:Nat)(a:∀(x:Array π) (w:u),(callFunc g x).run ω w=.ok (.enter g x) w)(b:π)(n:Int)(h:Bd F W M tk)(hc:∀ W,Bd F W M tk->Δ ω g #[pt F.g 0,J au n] W λe w'=>e=μ (Ψ #[])/\Bd F w' M' tk'/\Bt F W w'):Δ ω 215 #[ac #[b,ik g F.g 0],J au n] W λe w'=>e=μ (Ψ #[])/\Bd F w' M' tk'/\Bt F W w':=by
 have f:∀ w:u,(fG .neq 135 (ik g F.g 0) aI).run ω w=.ok (ν Γ) w:=λw=>yJ _ _ _ w
 have H:=hid h;have c:=hid hc;clear h hc;go_enter func215,ntmps215;go_wp2_with (refine(c.out _ (H.out.over _)).mono ?_;rintro e w1 ⟨rfl,hB,d⟩)
 go_end0;exact⟨D,hB,Mv.trans (Mv.of_below H.out.big (stA (aR _) _)) d⟩
theorem yi(g:Nat)(a:∀(x:Array π) (w:u),(callFunc g x).run ω w=.ok (.enter g x) w)(b:π)(n:Int)(q:Nat)(h:Bd F W M tk)(hc:∀ W,Bd F W M tk->Δ ω g #[J au n,pt q 0] W λe w'=>e=μ (Ψ #[])/\Bd F w' M' tk'/\Bt F W w'):Δ ω 215 #[ac #[b,fh g #[pt q 0]],J au n] W λe w'=>e=μ (Ψ #[])/\Bd F w' M' tk'/\Bt F W w':=by
 have f:∀ w:u,(fG .neq 135 (fh g #[pt q 0]) aI).run ω w=.ok (ν Γ) w:=λw=>yJ _ _ _ w
 have H:=hid h;have c:=hid hc;clear h hc;go_enter func215,ntmps215;go_wp2_with (refine(c.out _ (H.out.over _)).mono ?_;rintro e w1 ⟨rfl,hB,d⟩)
 go_end0;exact⟨D,hB,Mv.trans (Mv.of_below H.out.big (stA (aR _) _)) d⟩
theorem ztO(a:π)(n:Int)(q v:Nat){l:List Wt}(h:Bd F W M tk)(hc:∀ W,Bd F W M tk->Δ ω 246 #[J au n,pt q 0,pt v 0] W λe w'=>e=μ (Ψ #[])/\vd F W w' M' tk l):Δ ω 215 #[ac #[a,fh 246 #[pt q 0,pt v 0]],J au n] W λe w'=>e=μ (Ψ #[])/\vd F W w' M' tk l:=by
 have c:∀ w:u,(fG .neq 135 (fh 246 #[pt q 0,pt v 0]) aI).run ω w=.ok (ν Γ) w:=λw=>yJ _ _ _ w
 have H:=hid h;have b:=hid hc;clear h hc;go_enter func215,ntmps215;go_wp2_with (go_at_call 246;refine(b.out _ (H.out.over _)).mono ?_;rintro e w1 ⟨rfl,hB⟩)
 go_end0;exact⟨D,hB.1,(Bw.of_below H.out.big (stA (aR _) _)).trans hB.2⟩
theorem zx{k:Nat}{n:Int}(h:M.fit)(a:0<=n/\n<=255)(b:k=2 \/ k=3 \/ k=10 \/ k=11 \/ k=12 \/ k=13):(M.putM k n).fit:=by
 rcases b with rfl|rfl|rfl|rfl|rfl|rfl
 ·exact(show Mach.fit { M with t:={ M.t with r:=sW M.t.r n } } from { h with tr:=zm h.tr a,tc:=h.tc,main:=h.main })
 ·exact(show Mach.fit { M with t:={ M.t with r:=tI M.t.r n } } from { h with tr:=zn h.tr a,tc:=h.tc,main:=h.main })
 ·exact(show Mach.fit { M with fr:=sW M.fr n } from { h with fr:=zm h.fr a,main:=h.main })
 ·exact(show Mach.fit { M with fr:=tI M.fr n } from { h with fr:=zn h.fr a,main:=h.main })
 ·exact Mach.fit.of h ⟨h.main,h.aux,h.p0,h.p1,h.tr,h.tc,h.s,h.fr,zm h.to a,h.m0,h.m1⟩ ⟨D,D,D,D,D⟩ D ⟨D,D,D⟩ ⟨D,D⟩ (Or.inl D)
 ·exact Mach.fit.of h ⟨h.main,h.aux,h.p0,h.p1,h.tr,h.tc,h.s,h.fr,zn h.to a,h.m0,h.m1⟩ ⟨D,D,D,D,D⟩ D ⟨D,D,D⟩ ⟨D,D⟩ (Or.inl D)
theorem zwB(i:Nat)(n:Int)(h:i≠14):tk.add (ph i n)=tk:=by unfold ph;rw[ae h,Tk.add_zero]
theorem zwC(n:Int)(a:0<=n/\n<=255)(c:0<=tk.n/\tk.n<=1000000000000)(i:Nat)(hi:i<32):Bg F M tk i n:=by
 intro W h;by_cases b:i=14
 ·subst b
  rw[show tk.add (ph 14 n)=tk.add (2*n) from D];exact zw _ (λ_ _=>D) _ _ h (λW h=>ztH h n a c)
 rw[zwB i n b];have hc:i=0 \/ i=1 \/ i=2 \/ i=3 \/ i=4 \/ i=5 \/ i=6 \/ i=7 \/ i=8 \/ i=9 \/ i=10 \/ i=11 \/ i=12 \/ i=13 \/ i=15 \/ i=16 \/ i=17 \/ i=18 \/ i=19 \/ i=20 \/ i=21 \/ i=22 \/ i=23 \/ i=24 \/ i=25 \/ i=26 \/ i=27 \/ i=28 \/ i=29 \/ i=30 \/ i=31:=by omega
 clear b hi;rcases hc with rfl|rfl|rfl|rfl|rfl|rfl|rfl|rfl|rfl|rfl|rfl|rfl|rfl|rfl|rfl|rfl|rfl|rfl|rfl|rfl|rfl|rfl|rfl|rfl|rfl|rfl|rfl|rfl|rfl|rfl|rfl
 ·exact zw _ (λ_ _=>D) _ _ h (λW h=>ztN h n a)
 ·exact qq _ _ h
 ·exact yi _ (λ_ _=>D) _ _ _ h (λW h=>zgg h _ 41 M.t.r n .h2 D h.fit.tr a (by omega) D ⟨D,D,D,D,D⟩ (zx h.fit a (by omega)))
 ·exact yi _ (λ_ _=>D) _ _ _ h (λW h=>zjD h _ 41 M.t.r n .h3 D h.fit.tr a (by omega) D ⟨D,D,D,D,D⟩ (zx h.fit a (by omega)))
 ·exact zw _ (λ_ _=>D) _ _ h (λW h=>zrn h n a)
 ·exact qq _ _ h
 ·exact qq _ _ h
 ·exact qq _ _ h
 ·exact zw _ (λ_ _=>D) _ _ h (λW h=>zty h n)
 ·exact qq _ _ h
 ·exact yi _ (λ_ _=>D) _ _ _ h (λW h=>zgg h _ 65 M.fr n .h10 D h.fit.fr a (by omega) D ⟨D,D,D,D,D⟩ (zx h.fit a (by omega)))
 ·exact yi _ (λ_ _=>D) _ _ _ h (λW h=>zjD h _ 65 M.fr n .h11 D h.fit.fr a (by omega) D ⟨D,D,D,D,D⟩ (zx h.fit a (by omega)))
 ·exact yi _ (λ_ _=>D) _ _ _ h (λW h=>zgg h _ 66 M.to n .h12 D h.fit.to a (by omega) D ⟨D,D,D,D,D⟩ (zx h.fit a (by omega)))
 ·exact yi _ (λ_ _=>D) _ _ _ h (λW h=>zjD h _ 66 M.to n .h13 D h.fit.to a (by omega) D ⟨D,D,D,D,D⟩ (zx h.fit a (by omega)))
 ·exact qq _ _ h
 ·exact zw _ (λ_ _=>D) _ _ h (λW h=>zwl h n a)
 ·exact zw _ (λ_ _=>D) _ _ h (λW h=>ztz h n a)
 ·exact qq _ _ h
 ·exact qq _ _ h
 ·exact qq _ _ h
 ·exact qq _ _ h
 ·exact qq _ _ h
 ·exact qq _ _ h
 ·exact qq _ _ h
 ·exact qq _ _ h
 ·exact qq _ _ h
 ·exact qq _ _ h
 ·exact qq _ _ h
 ·exact qq _ _ h
 ·exact qq _ _ h
 ·exact qq _ _ h
theorem Bj{e:Ending}{w':u}(h:e=μ (Ψ #[])/\Bd F w' M' tk/\Bt F W w'){l:List Wt}(a:l=[]):e=μ (Ψ #[])/\(∃ v,Bd F w' M' (tk.app l v))/\Bw F W w':=⟨h.1,tq h.2.1 a h.2.2⟩
theorem zwD(n:Int)(b:0<=n/\n<=255)(c:tk.l.length<=1000000000)(i:Nat)(hi:i<32):Bh F M tk i n:=by
 intro W h;unfold Fx.wrA Mach.putA shown;by_cases e:i<24
 ·rw[am e,am e,am e]
  exact ztO _ _ _ _ h (λW h=>zrs h i e n b c)
 ·rw[ae e,ae e,ae e]
  by_cases e2:i=24
  ·rw[am e2,am e2]
   exact(yi _ (λ_ _=>D) _ _ _ h (λW h=>ztA h n b)).mono (λ_ _ a=>Bj a D)
  ·rw[ae e2,ae e2]
   exact(qq _ _ h).mono (λ_ _ a=>Bj a D)
end
section
variable {F : Gx} {W : u} {M : Mach} {tk : Tk} {gb mb : Nat}
theorem Gm.getA0(h:Gd F W M tk)(c:Pb F W mb)(a:Int)(h1:0<=a)(h2:a<32768):Δ ω 148 #[J Y a,pt mb 0] W λe w'=>e=μ (J au (M.lookA a))/\W=w':=by
 obtain⟨g,e1,_⟩:=c;have d:=h.at 31 F.S.ar D;have f:=hid h.ar;have i:=h.bx.z;have b:M.lookA a=mM M.arom a:=by unfold Mach.lookA;rw[am h2]
 rw[b];clear h b;go_enter func148,ntmps148;go_wp2_with (first
  | (go_at_call 88;refine(Gm.reg0 a _ h1 h2).mono ?_;rintro e w1 ⟨rfl,rfl⟩)
  | (go_at_call 149;refine(zix _ _ a _ f.out h1 (by omega)).mono ?_;rintro e w1 ⟨rfl,rfl⟩))
 go_ret;exact⟨D,D⟩
theorem Gm.getA1(h:Gd F W M tk)(d:Pb F W mb)(a:Int)(h1:32768<=a)(h2:a<49152):Δ ω 148 #[J Y a,pt mb 0] W λe w'=>e=μ (J au (M.lookA a))/\W=w':=by
 obtain⟨j,e1,_⟩:=d;obtain⟨b,e,_,_⟩:=h.ownV;have f:W.cell? ⟨F.g,33,G⟩=A (.slice (A ⟨F.ow,0,G⟩) 64 b):=(h.at 33 F.S.ow D).trans (by rw[e]);obtain⟨k,l,m⟩:=h.ownAt ((a-32768)%64) (by omega) (by omega);have i:bl (a-32768) 64=(a-32768)%64:=ak (by omega);have n:=h.bx.z;have c:M.lookA a=mq M.own ((a-32768)%64):=by unfold Mach.lookA;rw[ae (by omega),am h2]
 rw[c];clear h e c;go_enter func148,ntmps148;go_wp2_with (go_at_call 88;refine(Gm.reg1 a _ h1 h2).mono ?_;rintro e w1 ⟨rfl,rfl⟩)
 go_ret;exact⟨D,D⟩
theorem Gm.getA2(h:Gd F W M tk)(i:Pb F W mb)(a:Int)(h1:49152<=a)(h2:a<53248):Δ ω 148 #[J Y a,pt mb 0] W λe w'=>e=μ (J au (M.lookA a))/\W=w':=by
 obtain⟨l,e1,_⟩:=i;obtain⟨d,e,_,_⟩:=h.ramV;have j:W.cell? ⟨F.g,32,G⟩=A (.slice (A ⟨F.ra,0,G⟩) 128 d):=(h.at 32 F.S.ra D).trans (by rw[e]);obtain⟨m,n,o⟩:=h.ramAt ((a-49152)%128) (by omega) (by omega);have k:bl a 128=(a-49152)%128:=by rw[ak (by omega)];omega
 have p:=h.bx.z;have b:=h.at 67 (ν M.granted) D;have f:M.lookA a=if M.granted then mq M.ram ((a-49152)%128) else 255:=by unfold Mach.lookA;rw[ae (by omega),ae (by omega),am h2]
 rw[f];clear h e f;cases c:M.granted
 ·rw[c] at b
  simp only[cD,fj];go_enter func148,ntmps148;go_wp2_with (go_at_call 88;refine(Gm.reg2 a _ h1 h2).mono ?_;rintro e w1 ⟨rfl,rfl⟩)
  go_ret;exact⟨D,D⟩
 ·rw[c] at b
  simp only[fO];go_enter func148,ntmps148;go_wp2_with (go_at_call 88;refine(Gm.reg2 a _ h1 h2).mono ?_;rintro e w1 ⟨rfl,rfl⟩)
  go_ret;exact⟨D,D⟩
theorem Gm.getA4(a:Int)(h1:57344<=a)(h2:a<=65535):Δ ω 148 #[J Y a,pt mb 0] W λe w'=>e=μ (J au (M.lookA a))/\W=w':=by
 have b:M.lookA a=255:=by unfold Mach.lookA;rw[ae (by omega),ae (by omega),ae (by omega)]
 rw[b];go_enter func148,ntmps148;go_wp2_with (go_at_call 88;refine(Gm.reg4 a _ h1 h2).mono ?_;rintro e w1 ⟨rfl,rfl⟩)
 go_ret;exact⟨D,D⟩
theorem Gm.getA24(h:Gd F W M tk)(c:Pb F W mb)(a:Int)(h1:53248<=a)(h2:a<=57343)(i:bl a 32=24):Δ ω 148 #[J Y a,pt mb 0] W λe w'=>e=μ (J au M.m0)/\Gd F w' { M with rung:=ξ } tk/\Gt F W w':=by
 have b:=c.2.2;obtain⟨j,e1,_⟩:=c;have d:mb≠F.g:=λe=>b (Or.inl e)
 have c1:=h.at 69 (J au M.m0) D;have c2:=h.at 71 (ν M.rung) D;have c3:=h.bx.f 71;have k:=h.bx.z;have H:=hid h;clear h;go_enter func148,ntmps148;go_wp2_with (go_at_call 88;refine(Gm.reg3 a _ h1 h2).mono ?_;rintro e w1 ⟨rfl,rfl⟩)
 go_ret;exact⟨D,H.out.put 71 _ (by omega) D ⟨D,D,D,D,D⟩ { H.out.fit with main:=H.out.fit.main },Gt.set H.out.nd (Gt.refl _ _) _ _⟩
theorem Gm.getAp(a:Int)(h1:53248<=a)(h2:a<=57343)(k:Int)(c:bl a 32=k)(k0:0<=k)(k1:k<=31)(b:(k == 24)=ξ):Δ ω 148 #[J Y a,pt mb 0] W λe w'=>e=μ (J au 255)/\W=w':=by
 go_enter func148,ntmps148;go_wp2_with (go_at_call 88;refine(Gm.reg3 a _ h1 h2).mono ?_;rintro e w1 ⟨rfl,rfl⟩)
 go_ret;exact⟨D,D⟩
theorem rK{e:Ending}{w':u}{x:π}(h:Gd F W M tk)(a:e=μ x/\W=w'):e=μ x/\Gd F w' M tk/\Gt F W w':=by
 obtain⟨h1,rfl⟩:=a;exact⟨h1,h,Gt.refl _ _⟩
theorem Gm.getA(h:Gd F W M tk)(d:Pb F W mb)(a:Int)(f:0<=a/\a<=65535):Δ ω 148 #[J Y a,pt mb 0] W λe w'=>e=μ (J au (M.rdA a).1)/\Gd F w' (M.rdA a).2 tk/\Gt F W w':=by
 unfold Mach.rdA;by_cases hp:dP a=Γ
 ·rw[am hp]
  have c:53248<=a/\a<=57343:=by unfold dP at hp;simpa using hp
  have g:bl a 32=a%32:=ak (by omega);unfold Mach.portA;have i:(portNo a=24) ↔ a%32=24:=by unfold portNo;omega
  by_cases e:portNo a=24
  ·rw[am e]
   exact Gm.getA24 h d a c.1 c.2 (by omega)
  ·rw[ae e]
   exact(Gm.getAp a c.1 c.2 (a%32) g (by omega) (by omega) (by simp;omega)).mono (λ_ _ b=>rK h b)
 ·rw[ae hp]
  have c:¬ (53248<=a/\a<=57343):=by unfold dP at hp;simpa using hp
  by_cases h1:a<32768
  ·exact(Gm.getA0 h d a f.1 h1).mono (λ_ _ b=>rK h b)
  by_cases h2:a<49152
  ·exact(Gm.getA1 h d a (by omega) h2).mono (λ_ _ b=>rK h b)
  by_cases h3:a<53248
  ·exact(Gm.getA2 h d a (by omega) h3).mono (λ_ _ b=>rK h b)
  exact(Gm.getA4 (M:=M) a (by omega) f.2).mono (λ_ _ b=>rK h b)
abbrev memA(mb gb:Nat):π:=ac #[fh 148 #[pt mb 0],fh 150 #[pt mb 0,pt gb 0]]
abbrev memM(mb hb lb gb:Nat):π:=ac #[fh 87 #[pt gb 0,pt mb 0],fh 94 #[pt mb 0,pt hb 0,pt lb 0,pt gb 0]]
theorem Gm.wordA(h:Gd F W M tk)(a:Pb F W mb):Δ ω 86 #[memA mb gb,J Y 0] W λe w'=>e=μ (J Y (M.lookA 0*256+M.lookA 1))/\Below W.heap.size W w':=by
 have c:=wu M 0;have h1:=wu M 1;have q0:=hid (λo:Obj=>Gm.getA0 (h.over o) (a.kept (stA (aR W) o)) 0 (by omega) (by omega));have q1:=hid (λo:Obj=>Gm.getA0 (h.over o) (a.kept (stA (aR W) o)) 1 (by omega) (by omega));generalize M.lookA 0=d at *;generalize M.lookA 1=x1 at *;clear h a;go_enter func86,ntmps86;go_wp2_with (first
  | (go_at_call 148;refine(b.out _).mono ?_;rintro e w2 ⟨rfl,rfl⟩)
  | (go_at_call 148;refine(q0.out _).mono ?_;rintro e w1 ⟨rfl,rfl⟩;have b:=q1))
 go_ret;exact⟨D,stA (aR W) _⟩
end
structure AuxV (g n : Nat) (w : u) : Prop where
 z:n+2<w.heap.size
 a:w.cell? ⟨n,0,G⟩=A (pt g 0)
 b:w.cell? ⟨n+2,0,G⟩=A (pt g 0)
theorem zrG(g:Nat)(w:u):Δ ω 74 #[pt g 0] w λe w'=>e=μ (memA (w.heap.size+2) w.heap.size)/\Below w.heap.size w w'/\AuxV g w.heap.size w':=by
 go_enter func74,ntmps74;go_wp2;refine Ξ (v:=.agg _) (by simp[results,results74,go_sem]) D ⟨D,?_,?_⟩
 ·repeat (first|exact aR _|refine stA ?_ _|refine iK ?_ (by simp) _)
 ·exact⟨by simp,by simp[go_sem],by simp[go_sem]⟩
section
variable {F : Gx} {W : u} {M : Mach} {tk : Tk} {gb mb : Nat}
theorem Gd.fresh(h:Gd F W M tk){n:Nat}(b:W.heap.size<=n):¬ F.T n:=λa=>by
 have h1:=h.bx.z;obtain⟨_,_,_,h2⟩:=h.ramV;obtain⟨_,_,_,h3⟩:=h.ownV;obtain⟨_,_,_,h4⟩:=h.viV;have h2:=h2.z;have h3:=h3.z;have h4:=h4.z;rcases a with e|e|e|e <;> omega
theorem AuxV.pb{w1:u}(h:Gd F W M tk)(c:AuxV F.g W.heap.size w1):Pb F w1 W.heap.size/\Pb F w1 (W.heap.size+2) :=
 ⟨⟨by have:=c.z;omega,c.a,h.fresh (ψ _)⟩,⟨c.z,c.b,h.fresh (by omega)⟩⟩
theorem zrH(h:Gd F W M tk)(j:Pb F W mb):Δ ω 48 #[memA mb gb] W λe w'=>e=μ (ac (j5 (M.lookA 0*256+M.lookA 1)).toArray)/\Below W.heap.size W w':=by
 have l:=hid (λ(o o':Obj)=>Gm.wordA (gb:=gb) ((h.over o).over o') (j.kept (stA (stA (aR W) o) o')));generalize M.lookA 0*256+M.lookA 1=x at *;clear h j;go_enter func48,ntmps48;go_wp2_with (first
  | (go_at_call 86;refine(l.out _ _).mono ?_;rintro e w1 ⟨rfl,a⟩;have k:=hid ((Bx.new (W.alloc _) (j5 0) 25 (b:=W.heap.size+1) (by simp)).kept a);have f:=hid (bw (stA (stA (aR W) _) _) a);clear a)
  | (refine wpList_store_mid D 25 _ _ D (W.heap.size+1) 0 _ D D (Bx.there k.out 0 15 (by simp[j5])) sX (zu _) ?_
     refine Pl.cutL (λι=>Below W.heap.size W ι/\Bx ι (W.heap.size+1) (j5 x)) ⟨Bl.puts f.out (by omega) _,k.out.puts 0 (j5 x) (by simp[j5])⟩ ?_;rintro ι ⟨c,d⟩;have g:=hid c;have i:=hid d;clear c d))
 exact Ξ (v:=.agg _) (by simp only[results,results48];simp;exact Pl.res (zjI i.out)) D ⟨D,g.out⟩
end
end Go.Proofs.YthghjlinhokimaaGreatDoor
