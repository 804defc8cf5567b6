/-
  Parts of a proof, joined.
-/
import Derived.Test.YthghjlinhokimaaGreatDoorZbA
import Derived.Test.YthghjlinhokimaaGreatDoorZb16
import Derived.Test.YthghjlinhokimaaGreatDoorZb15
import Derived.Test.YthghjlinhokimaaGreatDoorZb14
set_option linter.all false
set_option maxRecDepth 100000
set_option maxHeartbeats 6400000
open Option renaming none->G,some->A
open Go renaming World->u,Value->π,Calls->Δ,TypeId->aJ,loadVar->bC
open Bool renaming false->ξ,true->Γ
open Go.Proofs.Tryz renaming prog->ω
open Go.Act renaming put->ag
open List renaming replicate->ai
open Or renaming inl->aj,inr->ao
open Go.Value renaming oneCell'->bi,slice->κ,nilFunc->aI,int->J,bool->ν,agg->ac
open Go.Instr renaming build->dw
open Go.IntKind renaming i64->Q,u16->Y,u8->au
open Go.Ending renaming returned->μ
open Go.Obj renaming cells->χ
namespace Go.Proofs.YthghjlinhokimaaGreatDoor
open Go.ChangeShapes Go.WideShapes Go.ChangeAt Go.RowKit Go.Proofs.Tryz
section
variable {F : Fx} {W : u} {M M' : Mach} {tk : Tk}
theorem Bd.fresh(h:Bd F W M tk)(a:F.T W.heap.size):False:=by
 have h1:=h.bx.z;obtain⟨_,_,_,h2⟩:=h.ramV;obtain⟨_,_,_,h3⟩:=h.ownV;obtain⟨_,_,_,h4⟩:=h.viV;have h2:=h2.z;have h3:=h3.z;have h4:=h4.z;rcases a with e|e|e|e <;> omega
theorem zrp(h:Bd F W M tk)(o:Nat)(b x1:Int)(l:kP F M tk o 0 b)(h1:kP F M tk o 1 x1)(b0:0<=b/\b<=255)(b1:0<=x1/\x1<=255):Δ ω 131 #[lX F.g o,J Y 0] W λe w'=>e=μ (J Y (b*256+x1))/\Bd F w' M tk/\Bt F W w':=by
 have H:=hid h;have hB:=h.big;clear h;go_enter func131,ntmps131;go_wp2_with (first
  | (go_at_call 211;refine(As b x1 _ b0 b1).mono ?_;rintro e n ⟨rfl,rfl⟩)
  | (go_at_call 210;refine(Bu.byte_at c.out o 1 x1 h1).mono ?_;rintro e w2 ⟨rfl,d,f⟩)
  | (go_at_call 210;refine(Bu.byte_at (H.out.over _) o 0 b l).mono ?_;rintro e w1 ⟨rfl,j,a⟩;have c:=hid j;have hc:=λi=>a.cell (k:=W.heap.size) (by simp) (λm=>H.out.fresh m) i;have p:W.heap.size<w1.heap.size:=Θ (by simp) a.size))
 go_ret;exact⟨D,d,Mv.trans (Mv.trans (Mv.of_below hB (stA (aR _) _)) a) f⟩
end
section
variable {F : Fx} {W : u} {M M' : Mach} {tk : Tk}
def j5(x:Int):List π:=[J Y 0,J Y 0,J Y 0,J Y 0,J Y 0,J Y 0,J Y 0,J Y 0,J Y x,ν ξ,ν ξ,ν ξ,ν ξ,ν ξ,ν ξ]
theorem znZ(hi lo:Int):j5 (hi*256+lo)=bY (gM hi lo):=rfl
theorem sX:(Tryz.prog.info? 25).map (·.size)=A 15:=by kernel_rfl
theorem zu(x:Int):(#[J Y 0,J Y 0,J Y 0,J Y 0,J Y 0,J Y 0,J Y 0,J Y 0,J Y x,ν ξ,ν ξ,ν ξ,ν ξ,ν ξ,ν ξ]:Array π).all (·.oneCell')=Γ:=by simp[bi]
theorem zjI{ι:u}{b:Nat}{x:Int}(h:Bx ι b (j5 x)):(bC 25 ⟨b,0,G⟩).run ω ι=.ok (ac (j5 x).toArray) ι :=
 run_loadVar_mid ι b 0 25 _ _ h.c underlying25 rfl sX
theorem Rw.off{v:π}{k:Nat}{l0 l:List UInt8}{w1:u}{b:Nat}(g:Rw W v k l0)(h:Rw w1 v k l)(hb:W.heap.size<=b)(o:Nat)(vs:List π):Rw (w1.setCells b o vs) v k l:=by
 rcases h with h|⟨a,e,i,j⟩
 ·exact aj h
 ·rcases g with⟨d,_⟩|⟨f,d,_,c⟩
  ·rw[d] at e;cases e
  ·exact ao ⟨a,e,i,j.fars (by have:=c.z;omega) o vs⟩
theorem Bd.off{M0:Mach}{w1:u}{b:Nat}(a:Bd F W M0 tk)(h:Bd F w1 M tk)(hb:W.heap.size<=b)(o:Nat)(vs:List π):Bd F (w1.setCells b o vs) M tk:=by
 refine⟨h.bx.fars (by have:=a.bx.z;omega) o vs,a.mr.off h.mr hb o vs,a.ar.off h.ar hb o vs,a.ra.off h.ra hb o vs,a.ow.off h.ow hb o vs,a.vi.off h.vi hb o vs,λx θ c=>?_,h.nd,h.fit,by rw[pN];exact h.big,jr h.ws (λk d=>ji (by have:=(a.ws.lt k d).2;omega) _ _ _),h.wd⟩;have e:x≠b:=by have:=(a.env x θ c).1;omega
 obtain⟨e1,e2⟩:=h.env x θ c;exact⟨by rw[pN];exact e1,(Φ (w:=w1) (ji e _ _ _)).trans e2⟩
theorem Bt.off{b:Nat}(hB:F.B<=W.heap.size)(hb:W.heap.size<=b):∀(vs:List π) (o:Nat) (w1:u),Bt F W w1->Bt F W (w1.setCells b o vs)
 | [],o,w1,h=>h
 | v::vs,o,w1,h=>Bt.off hB hb vs (o+1) _ (Mv.setCell h (ax hB hb) (ao hb) v)
theorem Bt.below(h:Bd F W M tk){w0:u}(hb:Below W.heap.size W w0):Bt F W w0:=Mv.of_below h.big hb
theorem zfw(h:Bd F W M tk)(o:Nat)(b x1:Int)(q:kP F M tk o 0 b)(h1:kP F M tk o 1 x1)(b0:0<=b/\b<=255)(b1:0<=x1/\x1<=255):Δ ω 68 #[lX F.g o] W λe w'=>e=μ (ac (j5 (b*256+x1)).toArray)/\Bd F w' M tk/\Bt F W w':=by
 have H:=hid h;have hB:=h.big;clear h;go_enter func68,ntmps68;go_wp2_with (first
  | (go_at_call 131;refine(zrp ((H.out.over _).over _) o b x1 q h1 b0 b1).mono ?_;rintro e w1 ⟨rfl,c,a⟩;have p:=hid (Bx.same (Bx.new _ (j5 0) _ (by simp)) a.size (a.block (W.heap.size+1) (by simp) (λr=>(H.out.over (χ #[ik 132 F.g o,ik 133 F.g o] 151)).fresh (by simpa using r))));have j:=hid c;have k:=hid a;clear c a)
  | (refine wpList_store_mid D 25 _ _ D (W.heap.size+1) 0 _ D D (Bx.there p.out 0 15 (by simp[j5])) sX (zu _) ?_
     refine Pl.cutL (λι=>Bd F ι M tk/\Bt F W ι/\Bx ι (W.heap.size+1) (j5 (b*256+x1))) ⟨?_,?_,?_⟩ ?_
     ·exact Bd.off H.out j.out (fH _) 0 _
     ·exact Bt.off hB (fH _) _ 0 _ (Mv.trans (Bt.below H.out (stA (stA (aR _) _) _)) k.out)
     ·exact p.out.puts 0 (j5 (b*256+x1)) (by simp[j5])
     rintro ι ⟨d,f,i⟩;have l:=hid d;have m:=hid f;have n:=hid i;clear d f i))
 exact Ξ (v:=.agg _) (by simp only[results,results68];simp;exact Pl.res (zjI n.out)) D ⟨D,l.out,m.out⟩
end
theorem tJ(C:List π):∀(a B ζ:List π),a.length=B.length->kr (ζ++(B++C)) ζ.length a=ζ++(a++C)
 | [],[],ζ,_=>rfl
 | v::vs,b::bs,ζ,h=>by
  have e:(ζ++(b::bs++C)).set ζ.length v=(ζ++[v])++(bs++C):=by simp
  have c:=tJ C vs bs (ζ++[v]) (by simpa using h);simp only[az,cy,fY,aX] at c;show kr ((ζ++(b::bs++C)).set ζ.length v) (ζ.length+1) vs=_;rw[e,c];simp
def rH(M:Mach):List π:=[J au M.p0.d,ν M.p0.l,J au M.p0.s,J au M.p1.d,ν M.p1.l,J au M.p1.s,J Y M.t.r,J Y M.t.c,ν M.t.on,ν M.t.g]
def vy(M:Mach):List π:=[J Q M.b.l,J Q M.b.a,ν M.b.g,J Q M.b.f,J Y M.fr,J Y M.to,ν M.granted,ν M.held,J au M.m0,J au M.m1,ν M.rung,J Q M.clock,J Q M.mready,J Q M.aready]
def dq(s:Sd):List π:=[J Y s.a.p,J Y s.a.c,J au s.a.l,ν s.a.h,J Y s.a.n,J Y s.b.p,J Y s.b.c,J au s.b.l,ν s.b.h,J Y s.b.n,J Y s.c.p,J Y s.c.c,J au s.c.l,ν s.c.h,J Y s.c.n,J Q s.w]
theorem zpZ(M:Mach):vt M=rH M++(dq M.s++vy M):=rfl
theorem Fx.putMain(F:Fx)(M:Mach)(tk:Tk)(c:C.Cpu):kr (F.cells M tk) 0 (bY c)=F.cells { M with main:=c } tk:=by
 unfold Fx.cells υ;rw[bK];exact tJ _ (bY c) (bY M.main) [] D
theorem Fx.putAux(F:Fx)(M:Mach)(tk:Tk)(c:C.Cpu):kr (F.cells M tk) 15 (bY c)=F.cells { M with aux:=c } tk:=by
 unfold Fx.cells υ;simp only[bK];exact tJ _ (bY c) (bY M.aux) (bY M.main) D
theorem Fx.putSnd(F:Fx)(M:Mach)(tk:Tk)(s:Sd):kr (F.cells M tk) 45 (dq s)=F.cells { M with s:=s } tk:=by
 have e:∀ M:Mach,F.cells M tk=(bY M.main++(bY M.aux++(zh F.S++rH M)))++(dq M.s++(vy M++([J Q tk.n,tk.v]++(F.sideM++F.sideA)))):=by
  intro M;unfold Fx.cells υ;rw[zpZ];simp only[bK]
 rw[e M,e];exact tJ _ (dq s) (dq M.s) (bY M.main++(bY M.aux++(zh F.S++rH M))) D
section
variable {F : Fx} {W : u} {M M' : Mach} {tk : Tk}
theorem Vc.put_ok{v:Vc}(h:v.ok)(k:Nat)(b:Int)(hb:0<=b/\b<=255):(v.put k b).ok:=by
 obtain⟨h1,h2,h3,h4⟩:=h;unfold Vc.put;split
 ·exact⟨by show 0<=b*256+v.p%256/\b*256+v.p%256<=65535;omega,h2,h3,h4⟩
 ·split
  ·exact⟨by show 0<=v.p/256*256+b/\v.p/256*256+b<=65535;omega,h2,h3,h4⟩
  ·split
   ·exact⟨h1,h2,by show 0<=b%16/\b%16<=255;omega,h4⟩
   ·split
    ·exact⟨h1,h2,h3,by show 0<=b*256+v.n%256/\b*256+v.n%256<=65535;omega⟩
    ·split
     ·exact⟨h1,h2,h3,by show 0<=v.n/256*256+b/\v.n/256*256+b<=65535;omega⟩
     ·exact⟨h1,h2,h3,h4⟩
theorem Sd.put_ok{s:Sd}(h:s.ok)(k:Nat)(b:Int)(hb:0<=b/\b<=255):(s.put k b).ok:=by
 unfold Sd.put;split
 ·exact⟨Vc.put_ok h.a _ _ hb,h.b,h.c⟩
 ·split
  ·exact⟨h.a,Vc.put_ok h.b _ _ hb,h.c⟩
  ·exact⟨h.a,h.b,Vc.put_ok h.c _ _ hb⟩
theorem Sd.put_w(s:Sd)(k:Nat)(b:Int):(s.put k b).w=s.w:=by
 unfold Sd.put;split
 ·rfl
 ·split <;> rfl
theorem Bd.snd(h:Bd F W M tk):W.cell? ⟨F.g,45,G⟩=A (J Y M.s.a.p)/\W.cell? ⟨F.g,46,G⟩=A (J Y M.s.a.c)/\W.cell? ⟨F.g,47,G⟩=A (J au M.s.a.l)/\W.cell? ⟨F.g,48,G⟩=A (ν M.s.a.h)/\W.cell? ⟨F.g,49,G⟩=A (J Y M.s.a.n)/\W.cell? ⟨F.g,50,G⟩=A (J Y M.s.b.p)/\W.cell? ⟨F.g,51,G⟩=A (J Y M.s.b.c)/\W.cell? ⟨F.g,52,G⟩=A (J au M.s.b.l)/\W.cell? ⟨F.g,53,G⟩=A (ν M.s.b.h)/\W.cell? ⟨F.g,54,G⟩=A (J Y M.s.b.n)/\W.cell? ⟨F.g,55,G⟩=A (J Y M.s.c.p)/\W.cell? ⟨F.g,56,G⟩=A (J Y M.s.c.c)/\W.cell? ⟨F.g,57,G⟩=A (J au M.s.c.l)/\W.cell? ⟨F.g,58,G⟩=A (ν M.s.c.h)/\W.cell? ⟨F.g,59,G⟩=A (J Y M.s.c.n)/\W.cell? ⟨F.g,60,G⟩=A (J Q M.s.w)/\(∀ o,W.frozen? ⟨F.g,o,G⟩=ξ)/\F.g<W.heap.size :=
 ⟨h.at 45 _ rfl,h.at 46 _ rfl,h.at 47 _ rfl,h.at 48 _ rfl,h.at 49 _ rfl,h.at 50 _ rfl,h.at 51 _ rfl,h.at 52 _ rfl,h.at 53 _ rfl,h.at 54 _ rfl,h.at 55 _ rfl,h.at 56 _ rfl,h.at 57 _ rfl,h.at 58 _ rfl,h.at 59 _ rfl,h.at 60 _ rfl,h.bx.f,h.bx.z⟩
theorem Bd.sndR(h:Bd F W M tk):W.rangeAt F.g 45 (dq M.s):=λi v hi=>by
 have a:=(ay.1 hi).1;obtain⟨b,d1,d2,d3,d4,d5,c,d,e,f,j,k,l,m,n,df,_,_⟩:=h.snd;have hc:i=0 \/ i=1 \/ i=2 \/ i=3 \/ i=4 \/ i=5 \/ i=6 \/ i=7 \/ i=8 \/ i=9 \/ i=10 \/ i=11 \/ i=12 \/ i=13 \/ i=14 \/ i=15:=by simp[dq] at a;omega
 rcases hc with rfl|rfl|rfl|rfl|rfl|rfl|rfl|rfl|rfl|rfl|rfl|rfl|rfl|rfl|rfl|rfl <;> (cases hi;assumption)
theorem zit:(Tryz.prog.info? 104).map (λi=>(i.zero,i.size,i.bytes))=A (A (ac #[J Q 0,J Q 0,J au 0]),3,24):=by kernel_rfl
theorem Bd.off_new(h:Bd F W M tk):F.off W.heap.size :=
 ⟨λa=>h.fresh a,λe=>by have:=h.mr.lt _ e;omega,λe=>by have:=h.ar.lt _ e;omega,λx θ b e=>by have:=(h.env x θ b).1;omega⟩
theorem putW(F:Fx)(M:Mach)(tk:Tk)(l:List Wt)(v:π):(F.cells M tk).set 76 v=F.cells M (tk.app l v):=rfl
theorem Bd.wrote(h:Bd F W M tk){i:u}{x:Wt}{f b:Nat}(o:W.grownBy i tk.v.ownBlock)(p:i.ownsRow F.B 104 3 (κ (A ⟨f,0,G⟩) (tk.l.length+1) b) (tk.l.length+1) (oC tk.l++[J Q x.c,J Q x.a,J au x.v]))(t:tk.v.ownBlock=A f \/ f=W.heap.size):Bd F (i.setCell ⟨F.g,76,G⟩ (κ (A ⟨f,0,G⟩) (tk.l.length+1) b)) M (tk.app [x] (κ (A ⟨f,0,G⟩) (tk.l.length+1) b))/\Bw F W (i.setCell ⟨F.g,76,G⟩ (κ (A ⟨f,0,G⟩) (tk.l.length+1) b)):=by
 have m:F.off f:=by
  rcases t with e|e
  ·exact h.wd f e
  ·rw[e];exact h.off_new
 have k:∀ j,j<W.heap.size->F.T j->i.heap[j]?=W.heap[j]?:=λj q I=>o.block j q (λe=>(h.wd j e.symm).1 I)
 have n:W.heap.size<=i.heap.size:=o.size;have r:W.heap.size<=(i.setCell ⟨F.g,76,G⟩ (κ (A ⟨f,0,G⟩) (tk.l.length+1) b)).heap.size:=by rw[lA];exact n
 obtain⟨d1,d2,d3,_⟩:=h.nd.d;have L:=λe=>h.nd.mr (aj e)
 have N:=λe=>h.nd.ar (aj e)
 have hb:Bd F (i.setCell ⟨F.g,76,G⟩ (κ (A ⟨f,0,G⟩) (tk.l.length+1) b)) M (tk.app [x] (κ (A ⟨f,0,G⟩) (tk.l.length+1) b)):=by
  refine⟨putW F M tk [x] _ ▸ (h.bx.same n (k _ h.bx.z (aj D))).set 76 _ (by rw[F.len];omega),?_,?_,?_,?_,?_,λy θ E=>?_,h.nd,h.fit,ax h.big r,?_,?_⟩
  ·refine(h.mr.same2 n (λj e q=>o.block j q (λe2=>(h.wd j e2.symm).2.1 e))).same (by rw[lA];exact ψ _) (λ_=>f8 L)
  ·refine(h.ar.same2 n (λj e q=>o.block j q (λe2=>(h.wd j e2.symm).2.2.1 e))).same (by rw[lA];exact ψ _) (λ_=>f8 N)
  ·exact(h.ra.same n (λs=>k _ s (ao (aj D)))).same (by rw[lA];exact ψ _) (λ_=>f8 (bZ d1))
  ·exact(h.ow.same n (λs=>k _ s (ao (ao (aj D))))).same (by rw[lA];exact ψ _) (λ_=>f8 (bZ d2))
  ·exact(h.vi.same n (λs=>k _ s (ao (ao (ao D))))).same (by rw[lA];exact ψ _) (λ_=>f8 (bZ d3))
  ·obtain⟨e1,e2⟩:=h.env y θ E
   have P:y≠F.g:=λe=>h.nd.env y θ E (aj e)
   exact⟨Θ e1 r,((Φ (w:=i) (f8 P)).trans (Φ (w:=W) (o.block y e1 (λe=>(h.wd y e.symm).2.2.2 y θ E D)))).trans e2⟩
  ·refine jr (w:=i) ?_ (λj e=>f8 (λe2=>?_))
   ·show i.ownsRow F.B 104 3 _ (tk.l++[x]).length (oC (tk.l++[x]))
    rw[az,znR];exact p
   ·have H:f=j:=by cases e;rfl
    exact m.1 (by rw[H,e2];exact aj D)
  ·intro j e
   have H:f=j:=by cases e;rfl
   rw[<- H];exact m
 refine⟨hb,(Bw.grown h o).trans (Bt.w (Bt.set h.nd (Bt.refl F i) 76 _))⟩
theorem zy6(h:Bd F W M tk):∃ ua uc,tk.v=κ ua tk.l.length uc:=by
 rcases h.ws.2 with⟨e,e2⟩|⟨g,a,b,e,_⟩
 ·exact⟨G,0,by rw[e,e2]⟩
 ·exact⟨_,_,e⟩
theorem zrs(h:Bd F W M tk)(k:Nat)(q:k<24)(n:Int)(hn:0<=n/\n<=255)(hl:tk.l.length<=1000000000):Δ ω 246 #[J au n,pt (F.E.sb k) 0,pt (F.E.sa k) 0] W λe w'=>e=μ (.tuple #[])/\vd F W w' { M with s:=M.s.put k n } tk [⟨M.clock,k,n⟩]:=by
 have hg:=h.bx.z;obtain⟨y1,e1⟩:=h.env _ _ (.sb k q);obtain⟨y2,e2⟩:=h.env _ _ (.sa k q);have hs:=h.fit.s;have U:F.E.sb k≠F.g:=λe=>h.nd.env _ _ (.sb k q) (aj e)
 have V:F.E.sa k≠F.g:=λe=>h.nd.env _ _ (.sa k q) (aj e)
 have H:=hid h;clear h;go_enter func246,ntmps246;go_upto_region 0 with fail
 go_cut [] (λι=>Bd F ι { M with s:=M.s.put k n } tk/\Bt F W ι)
 case first =>
  refine wp_region_held_drew (S:=λw'=>w'.cell? ⟨F.E.sb k,0,G⟩=A (pt F.g 0)/\w'.cell? ⟨F.E.sa k,0,G⟩=A (J Q k)) (by kernel_rfl) ⟨e1,e2⟩ ?_;intro b;refine bH 0 b ?_;refine bH 1 b ?_;refine bH 2 b ?_;refine bH 3 b ?_;refine bH 4 b ?_;refine bH 6 b ?_;refine bH 7 b ?_;refine gy 5 (λK c=>?_);refine zey D 36 _ D F.g 45 D (dq M.s) _ H.out.drew.sndR underlying36 D nh ?_;refine gL c b (λ_=>?_);clear c K;refine gy 8 (λK c=>?_);unfold dq;go_simp;go_at_call 247
  refine(zy5 M.s k n _ q hs hn).mono ?_;rintro e w1 ⟨rfl,X⟩;try go_wp2_with fail
  have N:=hid (H.out.drew.kept X);refine c.out _ _ ⟨(N.out.env _ _ (.sb k q)).2,(N.out.env _ _ (.sa k q)).2⟩ (λZ=>?_);clear c K b;have b:=Z;clear Z;try simp only[ag,xA,xB,xC]
  refine bH 9 b ?_;refine bH 10 b ?_;refine bH 11 b ?_;refine bH 12 b ?_;refine bH 13 b ?_;refine bH 14 b ?_;refine gy 15 (λK c=>?_);refine pH D 36 _ _ D F.g 45 (dq (M.s.put k n)).toArray D D (Bx.there N.out.bx 45 16 (by rw[Fx.len];omega)) nh (kH (M.s.put k n)) ?_;refine c.out _ _ ⟨(Φ (ji U _ _ _)).trans b.1,(Φ (ji V _ _ _)).trans b.2⟩ (λ_=>?_);clear c K;refine wpAnyH_done (by kernel_rfl) ?_ _;have hf:Mach.fit { M with s:=M.s.put k n }:=Mach.fit.of H.out.fit { H.out.fit with main:=H.out.fit.main,s:=Sd.put_ok H.out.fit.s k n hn } ⟨D,D,D,D,D⟩ (Sd.put_w _ _ _) ⟨D,D,D⟩ ⟨D,D⟩ (aj D);have hp:=N.out.puts (M':={ M with s:=M.s.put k n }) (tk':=tk) 45 (dq (M.s.put k n)) (by simp[dq]) (F.putSnd M tk _) ⟨D,D,D,D,D⟩ hf;have ht:=Bt.sets H.out.nd (dq (M.s.put k n)) 45 _ (Bt.below H.out (bw (aR W).drew X));go_simp;rename_i hM _ _;refine hM _ _ ?_;go_meet;exact⟨hp,ht⟩
 case rest =>
 obtain⟨hY1,hY2⟩:=hcut;have i:=hid hY1;have HY2:=hid hY2;have z1:=(i.out.env _ _ (.sb k q)).1;have q1:=(i.out.env _ _ (.sb k q)).2;have z2:=(i.out.env _ _ (.sa k q)).1;have q2:=(i.out.env _ _ (.sa k q)).2;have zg:=i.out.bx.z;obtain⟨ua,uc,P⟩:=zy6 i.out;have q3:wc.cell? ⟨F.g,76,G⟩=A (κ ua tk.l.length uc):=(i.out.at 76 tk.v D).trans (by rw[P]);have q4:wc.cell? ⟨F.g,72,G⟩=A (J Q M.clock):=i.out.at 72 _ D;have HV:=hid P;have HLN:=hid hl;have p:=hid ((i.out.over (χ #[J Q M.clock,J Q k,J au n] 104)).drew);have HU:Hid (((wc.alloc (χ #[J Q M.clock,J Q k,J au n] 104)).drew).ownsRow F.B 104 3 (κ ua tk.l.length uc) tk.l.length (oC tk.l)):=P ▸ p.out.ws;have HN:Hid (∀ j θ,([J Q M.clock,J Q k,J au n]:List π)[j]?=A θ->((wc.alloc (χ #[J Q M.clock,J Q k,J au n] 104)).drew).cell? ((⟨wc.heap.size,0,G⟩:Addr).add j)=A θ):=World.news_of_block (cs:=#[J Q M.clock,J Q k,J au n]) (t:=104) (fr:=(0,0)) (aM wc _);have HO:Hid (∀ θ∈([J Q M.clock,J Q k,J au n]:List π),θ.oneCell'=Γ):=by intro θ hu;simp at hu;rcases hu with rfl|rfl|rfl <;> rfl
 have HZ:Hid (F.B<=((wc.alloc (χ #[J Q M.clock,J Q k,J au n] 104)).drew).heap.size):=p.out.big;have H63:Hid (tk.l.length+1<=maxLen):=by show _<=_;unfold maxLen;omega
 have HBY:Hid ((tk.l.length+1)*24<=140737488355328):=by show _<=_;omega
 have HGF:Hid (∀ a,((wc.alloc (χ #[J Q M.clock,J Q k,J au n] 104)).drew).grownBy a (κ ua tk.l.length uc).ownBlock->a.frozen? ⟨F.g,76,G⟩=ξ/\F.g<a.heap.size/\a.cell? ⟨F.g,76,G⟩=A (κ ua tk.l.length uc)):=λa r=>by
  have hx:=p.out.bx.same r.size (r.block F.g p.out.bx.z (λe=>(p.out.wd F.g (by rw[P];exact e.symm)).1 (aj D)));exact⟨hx.f 76,hx.z,(hx.at 76 tk.v D).trans (by rw[P])⟩
 have HK:Hid (∀(R cp:Nat) (a:u),a.ownsRow F.B 104 3 (κ (A ⟨R,0,G⟩) (tk.l.length+1) cp) (tk.l.length+1) (oC tk.l++[J Q M.clock,J Q k,J au n])->((wc.alloc (χ #[J Q M.clock,J Q k,J au n] 104)).drew).grownBy a (κ ua tk.l.length uc).ownBlock->((κ ua tk.l.length uc).ownBlock=A R \/ R=wc.heap.size+1) ->
  vd F W (a.setCell ⟨F.g,76,G⟩ (κ (A ⟨R,0,G⟩) (tk.l.length+1) cp)) { M with s:=M.s.put k n } tk [⟨M.clock,k,n⟩]):=λR cp a hown r I=>by
  rw[<- P] at r I;obtain⟨x1,x2⟩:=p.out.wrote (x:=⟨M.clock,k,n⟩) r hown (I.imp id (λe=>by rw[e];show _=(wc.alloc _).heap.size;simp));exact⟨⟨_,x1⟩,(HY2.out.w.trans (Bw.of_below i.out.big ((stA (aR wc) _).drew))).trans x2⟩
 obtain⟨i1,hj0,hy0,hy1,hy2⟩:=info_parts zit;have HSZ:Hid (((wc.alloc (χ #[J Q M.clock,J Q k,J au n] 104)).drew).heap.size=wc.heap.size+1):=by show _=_;simp
 have T:Hid (((wc.alloc (χ #[J Q M.clock,J Q k,J au n] 104)).drew).cell? ⟨F.E.sb k,0,G⟩=A (pt F.g 0)/\((wc.alloc (χ #[J Q M.clock,J Q k,J au n] 104)).drew).cell? ⟨F.E.sa k,0,G⟩=A (J Q k)/\((wc.alloc (χ #[J Q M.clock,J Q k,J au n] 104)).drew).cell? ⟨F.g,72,G⟩=A (J Q M.clock)):=⟨(p.out.env _ _ (.sb k q)).2,(p.out.env _ _ (.sa k q)).2,p.out.at 72 _ D⟩
 have HQ5:Hid (((wc.alloc (χ #[J Q M.clock,J Q k,J au n] 104)).drew).cell? ⟨F.g,76,G⟩=A (κ ua tk.l.length uc)/\F.g<((wc.alloc (χ #[J Q M.clock,J Q k,J au n] 104)).drew).heap.size):=⟨(p.out.at 76 tk.v D).trans (by rw[P]),p.out.bx.z⟩
 have HS3:Hid (∀ a:u,((wc.alloc (χ #[J Q M.clock,J Q k,J au n] 104)).drew).grownBy a (κ ua tk.l.length uc).ownBlock->a.cell? ⟨F.E.sb k,0,G⟩=A (pt F.g 0)/\a.cell? ⟨F.E.sa k,0,G⟩=A (J Q k)/\a.cell? ⟨F.g,72,G⟩=A (J Q M.clock)):=λa r=>by
  have L:∀ x,x<((wc.alloc (χ #[J Q M.clock,J Q k,J au n] 104)).drew).heap.size->(∀ e:tk.v.ownBlock=A x,False)->a.heap[x]?=((wc.alloc (χ #[J Q M.clock,J Q k,J au n] 104)).drew).heap[x]?:=λx hx hne=>r.block x hx (λe=>hne (by rw[P];exact e.symm))
  obtain⟨a1,a2⟩:=p.out.env _ _ (.sb k q);obtain⟨b1,b2⟩:=p.out.env _ _ (.sa k q);exact⟨(Φ (L _ a1 (λe=>(p.out.wd _ e).2.2.2 _ _ (.sb k q) D))).trans a2,(Φ (L _ b1 (λe=>(p.out.wd _ e).2.2.2 _ _ (.sa k q) D))).trans b2,(Φ (L _ p.out.bx.z (λe=>(p.out.wd _ e).1 (aj D)))).trans (p.out.at 72 _ D)⟩
 have HS4:Hid (∀(a:u) (v:π),(a.cell? ⟨F.E.sb k,0,G⟩=A (pt F.g 0)/\a.cell? ⟨F.E.sa k,0,G⟩=A (J Q k)/\a.cell? ⟨F.g,72,G⟩=A (J Q M.clock))->(a.setCell ⟨F.g,76,G⟩ v).cell? ⟨F.E.sb k,0,G⟩=A (pt F.g 0)/\(a.setCell ⟨F.g,76,G⟩ v).cell? ⟨F.E.sa k,0,G⟩=A (J Q k)/\(a.setCell ⟨F.g,76,G⟩ v).cell? ⟨F.g,72,G⟩=A (J Q M.clock)):=λa v h=>⟨(Φ (f8 U)).trans h.1,(Φ (f8 V)).trans h.2.1,(ap _ _ _ _ (by simp)).trans h.2.2⟩
 clear hY1 hY2 P hl;go_wp2;refine wp_region_held_drew (S:=λw'=>w'.cell? ⟨F.E.sb k,0,G⟩=A (pt F.g 0)/\w'.cell? ⟨F.E.sa k,0,G⟩=A (J Q k)/\w'.cell? ⟨F.g,72,G⟩=A (J Q M.clock)) (by kernel_rfl) ⟨q1,q2,q4⟩ ?_;intro b;refine bH 0 b ?_;refine bH 1 b ?_;refine bH 2 b ?_;refine bH 3 b ?_;refine bH 5 b ?_;refine bH 6 b ?_;refine bH 7 b ?_;refine bH 8 b ?_;refine bH 9 b ?_;refine bH 10 b ?_;refine bH 11 b ?_;refine bH 12 b ?_;refine wpAnyH_ready (rs:=[4,13]) (by kernel_rfl) (by simp) ?_;refine AllReadyH.cons (o:=⟨A 23,_,_,_,_,G⟩) D (λK c=>?_) (AllReadyH.cons (o:=⟨A 32,_,_,_,_,G⟩) D (λK c=>?_) AllReadyH.nil)
 ·go_simp
  refine gL c b (λ_=>?_);clear c K;refine gy 13 (λK c=>?_);go_simp;refine gL c T.out (λ_=>?_);clear c K;refine gy 14 (λK c=>?_);refine step_append_lies _ (by rfl) (.tmp 23) (.tmp 32) 45 (by rfl) F.B 104 i1 _ 3 24 underlying45 hj0 hy0 hy1 hy2 D (by omega) (κ ua tk.l.length uc) tk.l.length (oC tk.l) D HU.out ⟨wc.heap.size,0,G⟩ 1 1 [J Q M.clock,J Q k,J au n] D D HN.out HO.out (by omega) H63.out HBY.out HZ.out (wc.heap.size+1) HSZ.out ?_;intro R cp a y d I hlt3;have m:=HS3.out a d;refine gL c m (λ_=>?_);clear c K;refine bH 15 m ?_;refine bH 16 m ?_;refine gy 17 (λK c=>?_);obtain⟨f3,z3,d3⟩:=HGF.out a d;go_simp;refine c.out _ _ (HS4.out a _ m) (λ_=>?_);clear c K;refine wpAnyH_done (by kernel_rfl) ?_ _;go_simp;go_wp2;go_end0;exact⟨D,HK.out R cp a y d I⟩
 ·go_simp
  refine gL c T.out (λ_=>?_);clear c K;refine gy 4 (λK c=>?_);have q5:=HQ5.out;go_simp;refine gL c T.out (λ_=>?_);clear c K q5;refine gy 14 (λK c=>?_);refine step_append_lies _ (by rfl) (.tmp 23) (.tmp 32) 45 (by rfl) F.B 104 i1 _ 3 24 underlying45 hj0 hy0 hy1 hy2 D (by omega) (κ ua tk.l.length uc) tk.l.length (oC tk.l) D HU.out ⟨wc.heap.size,0,G⟩ 1 1 [J Q M.clock,J Q k,J au n] D D HN.out HO.out (by omega) H63.out HBY.out HZ.out (wc.heap.size+1) HSZ.out ?_;intro R cp a y d I hlt3;have m:=HS3.out a d;refine gL c m (λ_=>?_);clear c K;refine bH 15 m ?_;refine bH 16 m ?_;refine gy 17 (λK c=>?_);obtain⟨f3,z3,d3⟩:=HGF.out a d;go_simp;refine c.out _ _ (HS4.out a _ m) (λ_=>?_);clear c K;refine wpAnyH_done (by kernel_rfl) ?_ _;go_simp;go_wp2;go_end0;exact⟨D,HK.out R cp a y d I⟩
end
theorem zrv{w:u}{g B:Nat}(a:w.heap[g]?=A (χ #[] 5 (0,0)))(hB:B<=g):w.ownsRow B 5 1 (κ (A ⟨g,0,G⟩) 0 0) ([]:List UInt8).length (gJ []) :=
 ⟨D,ao ⟨g,0,#[],D,hB,a,ψ _,by decide,by simp,by simp[gJ]⟩⟩
theorem zp1{w:u}{B:Nat}{v:π}{l:List UInt8}(h:w.ownsRow B 5 1 v l.length (gJ l)):(v=κ G 0 0/\l=[]) \/ ∃ k a,v=κ (A ⟨k,0,G⟩) l.length a/\l.length<=a/\B<=k/\Bx w k (gJ l):=by
 rcases h.2 with⟨rfl,m⟩|⟨g,a,b,rfl,hb,d,n,q,r,p⟩
 ·exact aj ⟨D,bM.1 m⟩
 ·refine ao ⟨g,a,D,n,hb,(aa.1 d).1,λj c i=>?_,λo=>Lib.frozen_of_heap d o⟩
  have f:=(ay.1 i).1;rw[znS] at f;rw[aX,Lib.cell_of_heap d j];have e:b[j]?=(b.toList.take (l.length*1))[j]?:=by rw[gF,am (by omega)];simp
  rw[e,p,i]
theorem zza(n c:Nat)(w:u):(binOp .eql 26 (κ G n c) (κ G 0 0)).run ω w=.ok (ν Γ) w:=by kernel_rfl
theorem zAY(a:Addr)(n c:Nat)(w:u):(binOp .eql 26 (κ (A a) n c) (κ G 0 0)).run ω w=.ok (ν ξ) w:=by kernel_rfl
theorem zlE(v:π)(l:List UInt8)(w:u)(h:sliceAt w v l)(f:l.length<=100000):Δ ω 180 #[v] w λe w'=>∃ v',e=μ v'/\w'.ownsRow w.heap.size 5 1 v' l.length (gJ l)/\Below w.heap.size w w':=by
 obtain⟨a,c,rfl⟩:=tV h;cases a with
 | none =>
  have i:l=[]:=by
   rcases h with⟨_,_,_,h2⟩|⟨g,o,j,h1,_⟩
   ·exact h2
   ·cases h1
  subst i;have k:=zza 0 c;go_enter func180,ntmps180;go_wp2;go_ret;exact⟨_,D,⟨D,aj ⟨D,D⟩⟩,aR _⟩
 | some a =>
  have k:=zAY a l.length c;have H:=hid h;clear h;go_enter func180,ntmps180;go_wp2_with (at_builtin;refine zf8 (by rfl) _ _ (by rfl) w.heap.size _ ([]:List UInt8) (by rfl) (zrv (aM w _) (ψ _)) _ (by rfl) l (H.out.kept (stA (aR w) _)) (by simp;exact f) (by simp) ?_;intro v' w' b d)
  go_ret;exact⟨_,D,by simpa using b,(stA (aR w) _).trans d⟩
def Sl.get(S:Sl)(j:Nat):π:=match j with|0=>S.mr|1=>S.ar|2=>S.ra|3=>S.ow|_=>S.vi
def Sl.set(S:Sl)(j:Nat)(v:π):Sl:=match j with|0=>{ S with mr:=v }|1=>{ S with ar:=v }|2=>{ S with ra:=v }|3=>{ S with ow:=v }|_=>{ S with vi:=v }
def Mach.byt(M:Mach)(j:Nat):List UInt8:=match j with|0=>M.mrom|1=>M.arom|2=>M.ram|3=>M.own|_=>M.video
theorem five{j:Nat}(h:j<5):j=0 \/ j=1 \/ j=2 \/ j=3 \/ j=4:=by omega
theorem Sl.get_set(S:Sl)(i j:Nat)(v:π)(hi:i<5)(a:j<5):(S.set i v).get j=if j=i then v else S.get j:=by
 rcases five hi with rfl|rfl|rfl|rfl|rfl <;> rcases five a with rfl|rfl|rfl|rfl|rfl <;> rfl
theorem zjO(M:Mach)(S:Sl)(j:Nat)(a:j<5):(υ M S)[30+j]?=A (S.get j):=by
 rcases five a with rfl|rfl|rfl|rfl|rfl <;> rfl
theorem ztR(M:Mach)(S:Sl)(j:Nat)(v:π)(a:j<5):(υ M S).set (30+j) v=υ M (S.set j v):=by
 rcases five a with rfl|rfl|rfl|rfl|rfl <;> rfl
theorem cn:(Tryz.prog.info? 41).map (·.size)=A 75:=by kernel_rfl
theorem vQ{ι:u}{b o:Nat}(M:Mach)(S:Sl)(h:ι.rangeAt b o (υ M S)):(bC 41 ⟨b,o,G⟩).run ω ι=.ok (ac (υ M S).toArray) ι :=
 run_loadVar_mid ι b o 41 _ _ h underlying41 rfl cn
def Sl.isSl(S:Sl):Prop:=∀ j,j<5->∃ a n c,S.get j=κ a n c
theorem iq(M:Mach)(S:Sl)(h:S.isSl):(υ M S).toArray.all (·.oneCell')=Γ:=by
 obtain⟨a0,b,c0,a⟩:=h 0 (by omega);obtain⟨a1,c,c1,e1⟩:=h 1 (by omega);obtain⟨a2,d,c2,e2⟩:=h 2 (by omega);obtain⟨a3,e,c3,e3⟩:=h 3 (by omega);obtain⟨a4,f,c4,e4⟩:=h 4 (by omega);simp only[Sl.get] at a e1 e2 e3 e4;unfold υ bY zh vt;rw[a,e1,e2,e3,e4];simp[bi]
def aD:Mach:=⟨C.Cpu.zero,C.Cpu.zero,[],[],[],[],[],⟨0,ξ,0⟩,⟨0,ξ,0⟩,⟨0,0,ξ,ξ⟩,⟨⟨0,0,0,ξ,0⟩,⟨0,0,0,ξ,0⟩,⟨0,0,0,ξ,0⟩,0⟩,⟨0,0,ξ,0⟩,0,0,ξ,ξ,0,0,ξ,0,0,0⟩
def aP:Sl:=⟨κ G 0 0,κ G 0 0,κ G 0 0,κ G 0 0,κ G 0 0⟩
def rI(B:Nat)(M:Mach)(S:Sl)(ι:u)(j:Nat):Prop:=(S.get j=κ G 0 0/\M.byt j=[]) \/ ∃ b a,S.get j=κ (A ⟨b,0,G⟩) (M.byt j).length a/\(M.byt j).length<=a/\B<=b/\Bx ι b (gJ (M.byt j))
structure OwnK (B : Nat) (M : Mach) (S : Sl) (k : Nat) (ι : u) : Prop where
 own:∀ j,j<k->rI B M S ι j
 dist:∀ i j b b' n c n' c',i<k->j<k->i≠j->S.get i=κ (A ⟨b,0,G⟩) n c->S.get j=κ (A ⟨b',0,G⟩) n' c'->b≠b'
theorem rI.same{B:Nat}{M:Mach}{S:Sl}{ι Y':u}{j:Nat}(h:rI B M S ι j)(c:ι.heap.size<=Y'.heap.size)(e:∀ b,B<=b->b<ι.heap.size->Y'.heap[b]?=ι.heap[b]?):rI B M S Y' j:=by
 rcases h with h|⟨b,a,h1,h2,h3,h4⟩
 ·exact aj h
 ·exact ao ⟨b,a,h1,h2,h3,h4.same c (e b h3 h4.z)⟩
theorem OwnK.same{B:Nat}{M:Mach}{S:Sl}{k:Nat}{ι Y':u}(h:OwnK B M S k ι)(a:ι.heap.size<=Y'.heap.size)(e:∀ b,B<=b->b<ι.heap.size->Y'.heap[b]?=ι.heap[b]?):OwnK B M S k Y' :=
 ⟨λj c=>(h.own j c).same a e,h.dist⟩
theorem OwnK.isSl{B:Nat}{M:Mach}{S:Sl}{ι:u}(h:OwnK B M S 5 ι):S.isSl:=λj a=>by
 rcases h.own j a with⟨e,_⟩|⟨b,c,e,_⟩
 ·exact⟨_,_,_,e⟩
 ·exact⟨_,_,_,e⟩
structure CP (w : u) (M : Mach) (S0 : Sl) (k : Nat) (S : Sl) (ι : u) : Prop where
 low:Below w.heap.size w ι
 bx:Bx ι w.heap.size (υ M S)
 res:Bx ι (w.heap.size+1) (υ aD aP)
 ptr:Bx ι (w.heap.size+2) [pt w.heap.size 30,pt w.heap.size 31,pt w.heap.size 32,pt w.heap.size 33,pt w.heap.size 34]
 own:OwnK (w.heap.size+3) M S k ι
 todo:∀ j,j<5->k<=j->S.get j=S0.get j
theorem CP.next{w ι w1:u}{M:Mach}{y S:Sl}{k:Nat}{v:π}(h:CP w M y k S ι)(f:k<5)(p:w1.ownsRow ι.heap.size 5 1 v (M.byt k).length (gJ (M.byt k)))(hb:Below ι.heap.size ι w1):CP w M y (k+1) (S.set k v) (w1.setCell ⟨w.heap.size,30+k,G⟩ v):=by
 have I:=h.ptr.z;have q:=hb.size;have d:∀ b,w.heap.size+3<=b->b<ι.heap.size->(w1.setCell ⟨w.heap.size,30+k,G⟩ v).heap[b]?=ι.heap[b]?:=λb h1 h2=>(f8 (by omega)).trans (hb.block b h2)
 have g:=h.own.same (Y':=w1.setCell ⟨w.heap.size,30+k,G⟩ v) (by rw[lA];exact q) d;have l:30+k<(υ M S).length:=by rw[dG];omega
 refine⟨(bw h.low hb).setCell (ψ _) _,?_,(h.res.kept hb).far (by omega) _,(h.ptr.kept hb).far (by omega) _,⟨λj m=>?_,λi j b b' n c E F hi m r e1 e2=>?_⟩,λj m H=>?_⟩
 ·rw[<- ztR M S k v f]
  exact(h.bx.kept hb).set _ _ l
 ·unfold rI
  rw[S.get_set k j v f (by omega)];by_cases e:j=k
  ·subst e
   rw[am D];rcases zp1 p with⟨e1,e2⟩|⟨b,a,e1,e2,e3,e4⟩
   ·exact aj ⟨e1,e2⟩
   ·exact ao ⟨b,a,e1,e2,by omega,e4.far (by omega) _⟩
  ·rw[ae e]
   exact g.own j (by omega)
 ·rw[S.get_set k i v f (by omega)] at e1
  rw[S.get_set k j v f (by omega)] at e2;by_cases B:i=k
  ·by_cases o:j=k
   ·omega
   ·rw[am B] at e1
    rw[ae o] at e2;have s:ι.heap.size<=b:=by
     rcases zp1 p with⟨x1,_⟩|⟨t,a,x1,_,x3,_⟩
     ·rw[x1] at e1;cases e1
     ·rw[x1] at e1;cases e1;exact x3
    rcases h.own.own j (by omega) with⟨x1,_⟩|⟨t,a,x1,_,_,x⟩
    ·rw[x1] at e2;cases e2
    ·rw[x1] at e2;cases e2;have:=x.z;omega
  ·rw[ae B] at e1
   by_cases o:j=k
   ·rw[am o] at e2
    have s:ι.heap.size<=b':=by
     rcases zp1 p with⟨x1,_⟩|⟨t,a,x1,_,x3,_⟩
     ·rw[x1] at e2;cases e2
     ·rw[x1] at e2;cases e2;exact x3
    rcases h.own.own i (by omega) with⟨x1,_⟩|⟨t,a,x1,_,_,x⟩
    ·rw[x1] at e1;cases e1
    ·rw[x1] at e1;cases e1;have:=x.z;omega
   ·rw[ae o] at e2
    exact h.own.dist i j b b' n c E F (by omega) (by omega) r e1 e2
 ·rw[S.get_set k j v f m,ae (by omega)]
  exact h.todo j m (by omega)
theorem zAZ(z k:Nat)(a:k<5):([pt z 30,pt z 31,pt z 32,pt z 33,pt z 34]:List π)[k]?=A (pt z (30+k)):=by
 rcases five a with rfl|rfl|rfl|rfl|rfl <;> rfl
theorem CP.start(w:u)(M:Mach)(S:Sl)(o1 o2 o3:aJ):CP w M S 0 S (((w.alloc (χ (υ M S).toArray o1)).alloc (χ (υ aD aP).toArray o2)).alloc (χ #[pt w.heap.size 30,pt w.heap.size 31,pt w.heap.size 32,pt w.heap.size 33,pt w.heap.size 34] o3)) :=
 ⟨stA (stA (stA (aR w) _) _) _,((Bx.new w (υ M S) o1 rfl).over _).over _,(Bx.new (w.alloc _) (υ aD aP) o2 (by simp)).over _,Bx.new _ [pt w.heap.size 30,pt w.heap.size 31,pt w.heap.size 32,pt w.heap.size 33,pt w.heap.size 34] o3 (by simp),⟨λj a=>by omega,λi j b b' n c d e hi=>by omega⟩,λj _ _=>D⟩
theorem zp4{w:u}{B:Nat}{v:π}{l:List UInt8}(h:w.ownsRow B 5 1 v l.length (gJ l)):∃ a n c,v=κ a n c:=by
 rcases zp1 h with⟨e,_⟩|⟨k,b,e,_⟩
 ·exact⟨_,_,_,e⟩
 ·exact⟨_,_,_,e⟩
theorem zA0{ι w1:u}{x o:Nat}{v:π}(hb:Below ι.heap.size ι w1)(hc:ι.cell? ⟨x,o,G⟩=A v)(b:ι.frozen? ⟨x,o,G⟩=ξ)(a:x<ι.heap.size):w1.cell? ⟨x,o,G⟩=A v/\w1.frozen? ⟨x,o,G⟩=ξ/\x<w1.heap.size :=
 ⟨(hb.cell (p:=⟨x,o,G⟩) a).trans hc,(hb.frozen (p:=⟨x,o,G⟩) a).trans b,Θ a hb.size⟩
theorem mK(L a:List π)(h:a.length=L.length):kr L 0 a=a:=by
 have:=tJ [] a L [] h
 simpa using this
theorem zn3(M:Mach)(S:Sl)(w:u)(p:∀ j,j<5->sliceAt w (S.get j) (M.byt j))(q:∀ j,j<5->(M.byt j).length<=100000):Δ ω 106 #[ac (υ M S).toArray] w λe w'=>∃ S',e=μ (ac (υ M S').toArray)/\OwnK (w.heap.size+3) M S' 5 w'/\Below w.heap.size w w':=by
 go_enter func106,ntmps106;go_wp2;refine Pl.cutW (CP w M S 0 S) (CP.start w M S _ _ _) ?_;intro ι B;have E:=hid B;clear B;go_loopw [12] (λi wr=>∃(k:Nat) (S1:Sl),k<=5/\i=J Q k/\CP w M S k S1 wr) (λi _=>5-(intOf i).toNat)
 case atStart=>exact⟨0,S,by omega,D,E.out⟩
 case round =>
  obtain⟨k,S1,V,rfl,a⟩:=hrel;clear E;by_cases d:k<5
  ·have F:(k:Int)<5:=by omega
   have c1:=a.ptr.at k _ (zAZ _ k d);have c2:=a.bx.at (30+k) _ (zjO M S1 k d);have H:=a.todo k d (ψ _);rw[H] at c2;have L:=a.ptr.z;have z0:=a.bx.z;have r:=hid ((p k d).kept a.low);have s:=q k d;have h:=hid a;clear a H p q;go_wp2_with (go_at_call 180;refine(zlE _ (M.byt k) _ r.out s).mono ?_;rintro e w1 ⟨v',rfl,g,l⟩;obtain⟨N,P,R,rfl⟩:=zp4 g;have T:=hid g;have U:=hid l;obtain⟨d1,d2,d3⟩:=zA0 l c2 (h.out.bx.f (30+k)) z0;clear g l)
   go_roundw
   case rel=>exact⟨k+1,S1.set k (κ N P R),by omega,by go_num,h.out.next d T.out U.out⟩
   case measure=>simp[intOf];omega
  ·obtain rfl:k=5:=by omega
   have z0:=a.bx.z;have L:=a.res.z;have h:=hid a;have HONE:=hid (iq M S1 a.own.isSl);clear a p q;go_wp2_with (first
    | (refine wpList_load_mid D 41 _ D w.heap.size 0 D (υ M S1) _ h.out.bx.c underlying41 D cn ?_)
    | (refine wpList_store_mid D 41 _ _ D (w.heap.size+1) 0 (υ M S1).toArray D D (h.out.res.there 0 75 (by rw[dG];omega)) cn HONE.out ?_
       refine Pl.cutL (λX=>Below w.heap.size w X/\Bx X (w.heap.size+1) (υ M S1)/\OwnK (w.heap.size+3) M S1 5 X) ⟨?_,?_,?_⟩ ?_
       ·exact Bl.puts h.out.low (by omega) _
       ·have I:=h.out.res.puts 0 (υ M S1) (by rw[dG,dG];omega)
        rw[mK _ _ (by rw[dG,dG])] at I;exact I
       ·exact h.out.own.same (cq (pN _ _ _ _).symm) (λb h1 h2=>ji (by omega) _ _ _)
       rintro X ⟨m,n,o⟩;have t:=hid m;have x:=hid n;have y:=hid o;clear m n o))
   exact Ξ (v:=ac (υ M S1).toArray) (by simp only[results,results106];simp;exact Pl.res (vQ M S1 x.out.c)) D ⟨S1,D,y.out,t.out⟩
def Mach.chk(M:Mach):Int :=
 if M.mrom.length<=1024/\M.arom.length<=1024 then
  if M.ram.length=128/\M.own.length=64/\M.video.length=256 then
   if 0<=M.s.w/\M.s.w<=15 then
    if pL M.b.l M.b.a M.b.f then
     if (0<=M.clock/\M.clock<=200000)/\(0<=M.mready/\M.mready<=M.clock+20000)/\(0<=M.aready/\M.aready<=M.clock+20000) then 0 else 3
    else 3
   else 3
  else 4
 else 2
theorem wA{M:Mach}(a:M.ok)(h:M.chk=0):M.fit:=by
 unfold Mach.chk at h;split at h
 ·rename_i h1
  split at h
  ·rename_i h2
   split at h
   ·rename_i h3
    split at h
    ·rename_i h4
     split at h
     ·rename_i b
      have hb:=(qo _ _ _).1 h4;exact⟨a,h1.1,h1.2,h2.1,h2.2.1,h2.2.2,h3,⟨hb.l0,hb.l1,hb.a0,hb.a1,hb.f0,iA hb.f1 (by decide)⟩,b.1,b.2.1,b.2.2⟩
     ·cases h
    ·cases h
   ·cases h
  ·cases h
 ·cases h
theorem zjP{M:Mach}(h:M.fit)(a:M.b.f<=20000):M.chk=0:=by
 unfold Mach.chk;rw[am ⟨h.mrom,h.arom⟩,am ⟨h.ram,h.own,h.video⟩,am h.w,am ((qo _ _ _).2 ⟨h.b.l0,h.b.l1,h.b.a0,h.b.a1,h.b.f0,a⟩),am ⟨h.clock,h.mready,h.aready⟩]
theorem zeA{M:Mach}(h:M.chk=0):M.b.f<=20000:=by
 unfold Mach.chk at h;split at h
 ·split at h
  ·split at h
   ·split at h
    ·rename_i h4
     exact((qo _ _ _).1 h4).f1
    ·cases h
   ·cases h
  ·cases h
 ·cases h
def Sl.lens(S:Sl)(M:Mach):Prop:=∀ j,j<5->∃ a c,S.get j=κ a (M.byt j).length c
theorem Bx.sndR{ι:u}{b:Nat}{M:Mach}{S:Sl}(h:Bx ι b (υ M S)):ι.rangeAt b 45 (dq M.s):=λi v hi=>by
 refine h.at (45+i) v ?_;have a:=(ay.1 hi).1;have hc:i=0 \/ i=1 \/ i=2 \/ i=3 \/ i=4 \/ i=5 \/ i=6 \/ i=7 \/ i=8 \/ i=9 \/ i=10 \/ i=11 \/ i=12 \/ i=13 \/ i=14 \/ i=15:=by simp[dq] at a;omega
 rcases hc with rfl|rfl|rfl|rfl|rfl|rfl|rfl|rfl|rfl|rfl|rfl|rfl|rfl|rfl|rfl|rfl <;> exact hi
def sl0:Sl:=⟨aI,aI,aI,aI,aI⟩
def vP(g:Nat)(E:Env):Fx:=⟨0,g,0,0,0,0,0,sl0,E⟩
def rG(g:Nat)(E:Env)(W:u):Prop:=Bx W E.mb [pt g 0]/\Bx W E.q0 [pt g 0]/\Bx W E.w0 [J Q 0]/\Bx W E.q1 [pt g 0]/\Bx W E.w1 [J Q 1]/\Bx W E.h2 [pt g 41]/\Bx W E.h3 [pt g 41]/\Bx W E.h10 [pt g 65]/\Bx W E.h11 [pt g 65]/\Bx W E.h12 [pt g 66]/\Bx W E.h13 [pt g 66]
def mE(n:Nat):Env:=⟨n+1,n+2,n+3,n+4,n+5,n+6,n+7,n+8,n+9,n+10,n+11,0,λ_=>0,λ_=>0⟩
def sO:List π:=ai 64 aI
theorem zru{ι:u}{b:Nat}{L:List π}(a:L.length=64)(h:Bx ι b L):(bC 138 ⟨b,0,G⟩).run ω ι=.ok (ac L.toArray) ι :=
 run_loadVar_mid ι b 0 138 _ _ h.c underlying138 rfl (zy.trans (by rw[a]))
def xe(g:Nat)(w:u):List π:=[fh 239 #[pt (w.heap.size+2) 0,pt (w.heap.size+3) 0],ik 183 g 0,fh 239 #[pt (w.heap.size+4) 0,pt (w.heap.size+5) 0],aI,aI,fh 242 #[pt (w.heap.size+6) 0],aI,fh 243 #[pt (w.heap.size+7) 0],ik 186 g 0,ik 187 g 0,aI,aI,fh 188 #[pt (w.heap.size+1) 0],aI,fh 189 #[pt (w.heap.size+1) 0],aI,ik 190 g 0,ik 191 g 0,aI,aI,aI,fh 242 #[pt (w.heap.size+8) 0],aI,fh 243 #[pt (w.heap.size+9) 0],aI,fh 242 #[pt (w.heap.size+10) 0],aI,fh 243 #[pt (w.heap.size+11) 0],aI,ik 192 g 0,aI,aI,ik 193 g 0,ik 194 g 0,fh 195 #[pt (w.heap.size+1) 0],ik 196 g 0,aI,aI,aI,aI,aI,aI,aI,aI,aI,aI,aI,aI,aI,aI,aI,aI,aI,aI,aI,aI,aI,aI,aI,aI,aI,aI,aI,aI]
theorem zx3(g:Nat)(w:u):xe g w=eP (vP g (mE w.heap.size)).rdM (vP g (mE w.heap.size)).wrM 32:=by kernel_rfl
theorem Bk(F:Fx)(i:Nat):(F.rdM i).oneCell'=Γ:=by unfold Fx.rdM;split <;> rfl
theorem Bn(F:Fx)(i:Nat):(F.wrM i).oneCell'=Γ:=by unfold Fx.wrM;split <;> rfl
theorem zez(r w:Nat->π)(v:π):∀ n,v∈eP r w n->∃ i,v=r i \/ v=w i
 | 0,h=>by simp[eP] at h
 | n+1,h=>by
  simp only[eP,cO,bp,cz,gC] at h;rcases h with h|h|h
  ·exact zez r w v n h
  ·exact⟨n,aj h⟩
  ·exact⟨n,ao h⟩
theorem zy7(g:Nat)(w:u):∀ v∈xe g w,v.oneCell'=Γ:=λv a=>by
 rw[zx3] at a;obtain⟨i,rfl|rfl⟩:=zez _ _ v 32 a
 ·exact Bk _ _
 ·exact Bn _ _
theorem xh{W w':u}{b c:Nat}{v:π}(h:W.cell? ⟨c,0,G⟩=A v/\W.there b 0 64)(hb:b<W.heap.size)(hc:c<W.heap.size)(a:Below W.heap.size W w'):w'.cell? ⟨c,0,G⟩=A v/\w'.there b 0 64 :=
 ⟨(a.cell (p:=⟨c,0,G⟩) hc).trans h.1,zc9 h.2 a hb⟩
theorem zwE(L a:List π)(h:a.length=L.length):kr L 0 a=a:=by
 have:=tJ [] a L [] h
 simpa using this
theorem ztP(g:Nat)(w:u):(xe g w).length=64:=rfl
theorem zAW(g:Nat)(w:u){ι:u}{b:Nat}(h:Bx ι b sO):Bx (ι.setCells b 0 (xe g w).toArray.toList) b (xe g w):=by
 have a:=h.puts 0 (xe g w) (by rw[ztP];simp[sO]);rw[zwE _ _ (by rw[ztP];simp[sO])] at a;exact a
theorem zy8{W:u}{n:Nat}{v:π}{vs:List π}(h:W.cell? ⟨n+1,0,G⟩=A v/\W.there n 0 64):(W.setCells n 0 vs).cell? ⟨n+1,0,G⟩=A v/\(W.setCells n 0 vs).there n 0 64 :=
 ⟨(Φ (ji (x:=n+1) (b:=n) (by omega) _ _ _)).trans h.1,World.there_setCells h.2 _ _ _⟩
theorem zjM(g:Nat)(w:u):Δ ω 108 #[pt g 0] w λe w' =>
 e=μ (ac (eP (vP g (mE w.heap.size)).rdM (vP g (mE w.heap.size)).wrM 32).toArray)/\Below w.heap.size w w'/\rG g (mE w.heap.size) w':=by
 go_enter func108,ntmps108;go_wp2;try simp only[List.append]
 refine wp_region_held_drew (S:=λw'=>w'.cell? ⟨w.heap.size+1,0,G⟩=A (pt g 0)/\w'.there w.heap.size 0 64) (by kernel_rfl) ⟨by simp,World.there_alloc (wT w _ _ 64 _ D D) _⟩ ?_;intro a;refine bH 0 a ?_;refine bH 2 a ?_;refine bH 3 a ?_;refine bH 5 a ?_;refine bH 8 a ?_;refine bH 9 a ?_;refine bH 10 a ?_;refine bH 11 a ?_;refine bH 14 a ?_;refine bH 15 a ?_;refine bH 16 a ?_;refine bH 17 a ?_;refine bH 20 a ?_;refine bH 21 a ?_;refine bH 22 a ?_;refine bH 23 a ?_;refine bH 24 a ?_;refine bH 25 a ?_;refine bH 26 a ?_;refine bH 27 a ?_;refine bH 28 a ?_;refine bH 29 a ?_;refine bH 30 a ?_;refine bH 31 a ?_;refine bH 32 a ?_;refine bH 33 a ?_;refine bH 34 a ?_;refine bH 35 a ?_;refine bH 36 a ?_;refine bH 39 a ?_;refine bH 40 a ?_;refine bH 41 a ?_;refine bH 44 a ?_;refine bH 45 a ?_;refine bH 46 a ?_;refine bH 49 a ?_;refine bH 50 a ?_;refine bH 51 a ?_;refine bH 54 a ?_;refine bH 55 a ?_;refine bH 56 a ?_
 refine bH 57 a ?_;refine bH 58 a ?_;refine bH 59 a ?_;refine bH 60 a ?_;refine bH 61 a ?_;refine bH 62 a ?_;refine bH 63 a ?_;refine bH 64 a ?_;refine bH 65 a ?_;refine gy 1 (λK c=>?_);go_simp;go_at_call 182
 refine(zp0 g _ _).mono ?_;rintro e w1 ⟨rfl,rfl⟩;try go_wp2_with fail
 refine c.out _ _ (xh a (by first|(simp;done)|(simp;omega)) (by first|(simp;done)|(simp;omega)) (stA (stA (aR _) _) _)) (λb=>?_);clear c K a;have a:=b;clear b;try simp only[ag,xA,xB,xC]
 refine bH 4 a ?_;refine gy 6 (λK c=>?_);go_simp;go_at_call 182
 refine(zp0 g _ _).mono ?_;rintro e w1 ⟨rfl,rfl⟩;try go_wp2_with fail
 refine c.out _ _ (xh a (by first|(simp;done)|(simp;omega)) (by first|(simp;done)|(simp;omega)) (stA (stA (aR _) _) _)) (λb=>?_);clear c K a;have a:=b;clear b;try simp only[ag,xA,xB,xC]
 refine bH 7 a ?_;refine gy 12 (λK c=>?_);go_simp;go_at_call 184
 refine(zgi g _ _).mono ?_;rintro e w1 ⟨rfl,rfl⟩;try go_wp2_with fail
 refine c.out _ _ (xh a (by first|(simp;done)|(simp;omega)) (by first|(simp;done)|(simp;omega)) (stA (aR _) _)) (λb=>?_);clear c K a;have a:=b;clear b;try simp only[ag,xA,xB,xC]
 refine bH 13 a ?_;refine gy 18 (λK c=>?_);go_simp;go_at_call 185
 refine(zjL g _ _).mono ?_;rintro e w1 ⟨rfl,rfl⟩;try go_wp2_with fail
 refine c.out _ _ (xh a (by first|(simp;done)|(simp;omega)) (by first|(simp;done)|(simp;omega)) (stA (aR _) _)) (λb=>?_);clear c K a;have a:=b;clear b;try simp only[ag,xA,xB,xC]
 refine bH 19 a ?_;refine gy 37 (λK c=>?_);go_simp;go_at_call 184
 refine(zgi g _ _).mono ?_;rintro e w1 ⟨rfl,rfl⟩;try go_wp2_with fail
 refine c.out _ _ (xh a (by first|(simp;done)|(simp;omega)) (by first|(simp;done)|(simp;omega)) (stA (aR _) _)) (λb=>?_);clear c K a;have a:=b;clear b;try simp only[ag,xA,xB,xC]
 refine bH 38 a ?_;refine gy 42 (λK c=>?_);go_simp;go_at_call 185
 refine(zjL g _ _).mono ?_;rintro e w1 ⟨rfl,rfl⟩;try go_wp2_with fail
 refine c.out _ _ (xh a (by first|(simp;done)|(simp;omega)) (by first|(simp;done)|(simp;omega)) (stA (aR _) _)) (λb=>?_);clear c K a;have a:=b;clear b;try simp only[ag,xA,xB,xC]
 refine bH 43 a ?_;refine gy 47 (λK c=>?_);go_simp;go_at_call 184
 refine(zgi g _ _).mono ?_;rintro e w1 ⟨rfl,rfl⟩;try go_wp2_with fail
 refine c.out _ _ (xh a (by first|(simp;done)|(simp;omega)) (by first|(simp;done)|(simp;omega)) (stA (aR _) _)) (λb=>?_);clear c K a;have a:=b;clear b;try simp only[ag,xA,xB,xC]
 refine bH 48 a ?_;refine gy 52 (λK c=>?_);go_simp;go_at_call 185
 refine(zjL g _ _).mono ?_;rintro e w1 ⟨rfl,rfl⟩;try go_wp2_with fail
 refine c.out _ _ (xh a (by first|(simp;done)|(simp;omega)) (by first|(simp;done)|(simp;omega)) (stA (aR _) _)) (λb=>?_);clear c K a;have a:=b;clear b;try simp only[ag,xA,xB,xC]
 refine bH 53 a ?_;refine bH 66 a ?_;refine gy 67 (λK c=>?_);refine pH D 138 _ _ D w.heap.size 0 (xe g w).toArray D D a.2 zy (all_oneCell_toArray (zy7 g w)) ?_;refine c.out _ _ (zy8 a) (λ_=>?_);clear c K;refine wpAnyH_done (by kernel_rfl) ?_ _;refine Pl.cutE (λι=>Below w.heap.size w ι/\Bx ι w.heap.size (xe g w)/\rG g (mE w.heap.size) ι) ⟨?_,?_,?_⟩ ?_
 ·refine Bl.puts ?_ (ψ _) _
  repeat' (first|exact aR _|refine di ?_|refine stA ?_ _)
 ·refine zAW g w ?_
  repeat' (first|exact Bx.new _ sO _ D|refine Bx.drew ?_|refine Bx.over ?_ _)
 ·refine⟨?_,?_,?_,?_,?_,?_,?_,?_,?_,?_,?_⟩
  all_goals refine Bx.fars ?_ (by show w.heap.size≠w.heap.size+_;omega) 0 _
  all_goals repeat' (first|exact Bx.new _ _ _ (by simp;rfl)|refine Bx.drew ?_|refine Bx.over ?_ _)
 rintro ι ⟨d,f,h⟩;have j:=hid d;have i:=hid f;have k:=hid h;clear d f h a;go_wp2;rw[zx3] at i;exact Ξ (v:=.agg _) (by simp only[results,results108];simp;exact Pl.res (zru (by rw[se]) i.out)) D ⟨D,j.out,k.out⟩
def yj(n g i k:Nat):π:=if k<i then fh 246 #[pt (n+3+2*k) 0,pt (n+4+2*k) 0] else if k=24 then fh 198 #[pt n 0] else aI
def apR(g k:Nat):π:=if k=24 then ik 197 g 0 else aI
theorem zfx(r w w':Nat->π):∀ n,(∀ k,k<n->w k=w' k)->eP r w n=eP r w' n
 | 0,_=>rfl
 | n+1,h=>by rw[eP,eP,zfx r w w' n (λk a=>h k (by omega)),h n (by omega)]
theorem ziu(r w:Nat->π)(v:π)(i:Nat):∀ n,i<n->(eP r w n).set (2*i+1) v=eP r (λk=>if k=i then v else w k) n
 | 0,h=>by omega
 | n+1,h=>by
  rw[eP,eP];by_cases e:i<n
  ·rw[List.set_append_left _ _ (by rw[se];omega),ziu r w v i n e]
   rw[ae (by omega)]
  ·obtain rfl:i=n:=by omega
   rw[nb _ _ (by rw[se];omega),se,show 2*i+1-2*i=1 by omega,am D];have:eP r (λk=>if k=i then v else w k) i=eP r w i:=zfx r _ _ i (λk a=>ae (by omega));rw[this];rfl
theorem zwF(n g i:Nat)(hi:i<24):(λk=>if k=i then fh 246 #[pt (n+3+2*i) 0,pt (n+4+2*i) 0] else yj n g i k)=yj n g (i+1):=by
 funext k
 unfold yj;by_cases e:k=i
 ·subst e;rw[am D,am (by omega)]
 ·rw[ae e]
  by_cases e2:k<i
  ·rw[am e2,am (by omega)]
  ·simp only[ae e2,ae (show ¬ k<i+1 by omega)]
def tW(n g i:Nat):List π:=eP (apR g) (yj n g i) 32
theorem zn2(n g i:Nat):(tW n g i).length=64:=se _ _ 32
structure LnAP (w : u) (g i : Nat) (ι : u) : Prop where
 low:Below w.heap.size w ι
 sz:ι.heap.size=w.heap.size+3+2*i
 b:Bx ι w.heap.size [pt g 0]
 r:Bx ι (w.heap.size+1) (ai 64 aI)
 l:Bx ι (w.heap.size+2) (tW w.heap.size g i)
 sb:∀ k,k<i->Bx ι (w.heap.size+3+2*k) [pt g 0]/\Bx ι (w.heap.size+4+2*k) [J Q k]
theorem LnAP.next{w ι:u}{g i:Nat}(h:LnAP w g i ι)(hi:i<24)(o1 o2:aJ):LnAP w g (i+1) (((ι.alloc (χ #[pt g 0] o1)).alloc (χ #[J Q (i:Int)] o2)).setCell ⟨w.heap.size+2,2*i+1,G⟩ (fh 246 #[pt (w.heap.size+3+2*i) 0,pt (w.heap.size+4+2*i) 0])):=by
 have c:=h.sz;have a:=stA (stA h.low (χ #[pt g 0] o1)) (χ #[J Q (i:Int)] o2);refine⟨a.setCell (kg _ _) _,?_,((h.b.over _).over _).far (by omega) _,((h.r.over _).over _).far (by omega) _,?_,λk d=>?_⟩
 ·rw[lA];simp;omega
 ·have:=((h.l.over (χ #[pt g 0] o1)).over (χ #[J Q (i:Int)] o2)).set (2*i+1) (fh 246 #[pt (w.heap.size+3+2*i) 0,pt (w.heap.size+4+2*i) 0]) (by rw[zn2];omega)
  unfold tW at this;rw[ziu _ _ _ i 32 (by omega),zwF _ _ _ hi] at this;exact this
 ·by_cases e:k<i
  ·obtain⟨h1,h2⟩:=h.sb k e
   exact⟨((h1.over _).over _).far (by omega) _,((h2.over _).over _).far (by omega) _⟩
  ·obtain rfl:k=i:=by omega
   refine⟨((Bx.new ι [pt g 0] o1 (by omega)).over _).far (by omega) _,(Bx.new (ι.alloc (χ #[pt g 0] o1)) [J Q (k:Int)] o2 (by simp;omega)).far (by omega) _⟩
theorem yR{ι:u}{b:Nat}{L:List π}(a:L.length=64)(h:Bx ι b L):(bC 138 ⟨b,0,G⟩).run ω ι=.ok (ac L.toArray) ι :=
 run_loadVar_mid ι b 0 138 _ _ h.c underlying138 rfl (zy.trans (by rw[a]))
theorem zx4(n g i:Nat):(tW n g i).toArray.all (·.oneCell')=Γ:=by
 refine all_oneCell_toArray (λv a=>?_);have key:∀ m,v∈eP (apR g) (yj n g i) m->v.oneCell'=Γ:=by
  intro m;induction m with
  | zero=>intro h;simp[eP] at h
  | succ m b =>
   intro h;simp only[eP,cO,bp,cz,gC] at h;rcases h with h|rfl|rfl
   ·exact b h
   ·unfold apR;split <;> rfl
   ·unfold yj;split
    ·rfl
    ·split <;> rfl
 exact key 32 a
theorem LnAP.next'{w ι:u}{g i:Nat}(h:LnAP w g i ι)(hi:i<24)(o1 o2:aJ):LnAP w g (i+1) (((ι.alloc (χ #[pt g 0] o1)).alloc (χ #[J Q (i:Int)] o2)).setCell ⟨w.heap.size+1+1,i*2+1,G⟩ (fh 246 #[pt ι.heap.size 0,pt (ι.heap.size+1) 0])):=by
 have a:=h.next hi o1 o2;rw[show w.heap.size+4+2*i=w.heap.size+3+2*i+1 by omega,<- h.sz,show 2*i+1=i*2+1 by omega] at a;exact a
theorem zAX{W w1:u}{a b:Obj}{x o:Nat}{v:π}(d:w1=(W.alloc a).alloc b)(hc:W.cell? ⟨x,o,G⟩=A v)(e:W.frozen? ⟨x,o,G⟩=ξ)(c:x<W.heap.size):w1.cell? ⟨x,o,G⟩=A v/\w1.frozen? ⟨x,o,G⟩=ξ/\x<w1.heap.size:=by
 subst d;have hb:=stA (stA (aR W) a) b;exact⟨(hb.cell (p:=⟨x,o,G⟩) c).trans hc,(hb.frozen (p:=⟨x,o,G⟩) c).trans e,Θ c hb.size⟩
def tu(n g:Nat):List π:=[aI,aI,aI,aI,aI,aI,aI,aI,aI,aI,aI,aI,aI,aI,aI,aI,aI,aI,aI,aI,aI,aI,aI,aI,aI,aI,aI,aI,aI,aI,aI,aI,aI,aI,aI,aI,aI,aI,aI,aI,aI,aI,aI,aI,aI,aI,aI,aI,ik 197 g 0,fh 198 #[pt n 0],aI,aI,aI,aI,aI,aI,aI,aI,aI,aI,aI,aI,aI,aI]
theorem zx5(n g:Nat):tu n g=tW n g 0:=by kernel_rfl
theorem zy9(n g:Nat):(tu n g).toArray.all (·.oneCell')=Γ:=by rw[zx5];exact zx4 n g 0
theorem ztQ(L a:List π)(h:a.length=L.length):kr L 0 a=a:=by
 have:=tJ [] a L [] h
 simpa using this
theorem LnAP.start{w:u}{g:Nat}(o1 o2 o3:aJ):LnAP w g 0 (((((w.alloc (χ #[pt g 0] o1)).alloc (χ (ai 64 aI).toArray o2)).alloc (χ (ai 64 aI).toArray o3))).setCells (w.heap.size+2) 0 (tu w.heap.size g)):=by
 have a:=(Bx.new ((w.alloc (χ #[pt g 0] o1)).alloc (χ (ai 64 aI).toArray o2)) (ai 64 aI) o3 (b:=w.heap.size+2) (by simp)).puts 0 (tu w.heap.size g) (by simp[tu]);rw[ztQ _ _ (by simp[tu])] at a;refine⟨Bl.puts (stA (stA (stA (aR w) _) _) _) (by omega) _,by rw[pN];simp,(((Bx.new w [pt g 0] o1 D).over _).over _).fars (by omega) _ _,((Bx.new (w.alloc _) (ai 64 aI) o2 (by simp)).over _).fars (by omega) _ _,by rw[<- zx5];exact a,λk c=>by omega⟩
theorem Cc{w:u}{g:Nat}(o1 o2 o3:aJ):(((w.alloc (χ #[pt g 0] o1)).alloc (χ (ai 64 aI).toArray o2)).alloc (χ (ai 64 aI).toArray o3)).there (w.heap.size+2) 0 64 :=
 (Bx.new _ (ai 64 aI) o3 (b:=w.heap.size+2) (by simp)).there 0 64 (by simp)
theorem zjN(g:Nat)(w:u):Δ ω 110 #[pt g 0] w λe w' =>
 e=μ (ac (tW w.heap.size g 24).toArray) /\ ∃ ι,LnAP w g 24 ι/\Below w.heap.size w w'/\(∀ k,k≠w.heap.size+1->w'.heap[k]?=ι.heap[k]?)/\ι.heap.size=w'.heap.size:=by
 go_enter func110,ntmps110;go_wp2_with (first
  | (refine wpList_store_mid D 138 _ _ D (w.heap.size+2) 0 _ D D (Cc 89 138 138) zy (zy9 w.heap.size g) ?_
     refine Pl.cutL (LnAP w g 0) (LnAP.start 89 138 138) ?_;intro ι N;have P:=hid N;clear N))
 go_loopw [10] (λi wr=>∃ k:Nat,k<=24/\i=J Q k/\LnAP w g k wr) (λi _=>24-(intOf i).toNat)
 case atStart=>exact⟨0,by omega,D,P.out⟩
 case round =>
  obtain⟨k,R,rfl,a⟩:=hrel;by_cases t:k<24
  ·have T:(k:Int)<24:=by omega
   have U:(k:Int)<32:=by omega
   have c1:=a.b.at 0 (pt g 0) D;have z1:=a.b.z;have z2:=a.l.z;obtain⟨v0,j⟩:∃ v,(tW w.heap.size g k)[k*2+1]?=A v:=⟨_,by rw[iw];exact(zet _ _ 32 k (by omega)).2⟩
   have c2:wr.cell? ⟨w.heap.size+1+1,k*2+1,G⟩=A v0:=a.l.at _ _ j;have f2:wr.frozen? ⟨w.heap.size+1+1,k*2+1,G⟩=ξ:=a.l.f (k*2+1);have z3:w.heap.size+1+1<wr.heap.size:=z2;have s:=hid a;clear a j;go_wp2_with (go_at_call 199;refine(zrt g k _).mono ?_;rintro e w1 ⟨rfl,x⟩;obtain⟨c3,f3,z4⟩:=zAX x c2 f2 z3;have HW:=hid x;clear x c2 f2 z3 z2)
   go_roundw
   case rel =>
    refine⟨k+1,by omega,by go_num,?_⟩;rw[HW.out];exact s.out.next' t _ _
   case measure=>simp[intOf];omega
  ·obtain rfl:k=24:=by omega
   have s:=hid a;have z2:=a.l.z;have V:=hid a.r;have W:=hid a.l;have h:=zn2 w.heap.size g 24;have Z:=hid (zx4 w.heap.size g 24);clear a P;generalize m:tW w.heap.size g 24=L at W h Z;have y:=hid m;have d:L.toArray.size=64:=by simp[h]
   have B:Hid (wr.there (w.heap.size+1) 0 L.toArray.size):=hid (by rw[d];exact V.out.there 0 64 (by simp));have E:Hid ((Tryz.prog.info? 138).map (·.size)=A L.toArray.size):=hid (by rw[d];exact zy);clear m d;go_wp2_with (first
    | (refine wpList_load_mid D 138 _ D (w.heap.size+2) 0 D L _ W.out.c underlying138 D (zy.trans (by rw[h])) ?_)
    | (refine wpList_store_mid D 138 _ _ D (w.heap.size+1) 0 L.toArray D D B.out E.out Z.out ?_
       refine Pl.cutL (λX=>Below w.heap.size w X/\(∀ k,k≠w.heap.size+1->X.heap[k]?=wr.heap[k]?)/\wr.heap.size=X.heap.size/\Bx X (w.heap.size+1) L) ⟨?_,?_,?_,?_⟩ ?_
       ·exact Bl.puts s.out.low (by omega) _
       ·exact λk R=>ji R _ _ _
       ·exact(pN _ _ _ _).symm
       ·have hx:=V.out.puts 0 L (by rw[h];simp)
        rw[ztQ _ _ (by rw[h];simp)] at hx;exact hx
       rintro X ⟨n,o,p,q⟩;have F:=hid n;have H:=hid o;have I:=hid p;have M:=hid q;clear n o p q))
   exact Ξ (v:=ac L.toArray) (by simp only[results,results110];simp;exact Pl.res (yR h M.out)) D ⟨by rw[y.out],wr,s.out,F.out,H.out,I.out⟩
section
variable {F : Fx} {W : u} {M M' : Mach} {tk : Tk}
theorem B9(a b c d e f:π)(w:u):(Instr.index 29 (ac #[a,b,c,d,e,f]) (J Q 0)).run ω w=.ok (ac #[a,b,c]) w:=by kernel_rfl
theorem Ca(a b c d e f:π)(w:u):(Instr.index 29 (ac #[a,b,c,d,e,f]) (J Q 1)).run ω w=.ok (ac #[d,e,f]) w:=by kernel_rfl
theorem Bd.padC(h:Bd F W M tk):W.cell? ⟨F.g,35,G⟩=A (J au M.p0.d)/\W.cell? ⟨F.g,36,G⟩=A (ν M.p0.l)/\W.cell? ⟨F.g,37,G⟩=A (J au M.p0.s)/\W.cell? ⟨F.g,38,G⟩=A (J au M.p1.d)/\W.cell? ⟨F.g,39,G⟩=A (ν M.p1.l)/\W.cell? ⟨F.g,40,G⟩=A (J au M.p1.s)/\(∀ o,W.frozen? ⟨F.g,o,G⟩=ξ)/\F.g<W.heap.size :=
 ⟨h.at 35 _ rfl,h.at 36 _ rfl,h.at 37 _ rfl,h.at 38 _ rfl,h.at 39 _ rfl,h.at 40 _ rfl,h.bx.f,h.bx.z⟩
theorem ztN(h:Bd F W M tk)(n:Int)(k:0<=n/\n<=255):Δ ω 183 #[pt F.g 0,J au n] W λe w'=>e=μ (.tuple #[])/\Bd F w' (M.putM 0 n) tk/\Bt F W w':=by
 have i0:=B9 (J au M.p0.d) (ν M.p0.l) (J au M.p0.s) (J au M.p1.d) (ν M.p1.l) (J au M.p1.s);have v:=Ca (J au M.p0.d) (ν M.p0.l) (J au M.p0.s) (J au M.p1.d) (ν M.p1.l) (J au M.p1.s);have H:=hid h;obtain⟨c0,c1,c2,c3,c4,c5,c,f⟩:=h.padC;clear h;go_enter func183,ntmps183;go_wp2;go_loopw [11] (λi wr=>Bt F W wr/\((i=J Q 0/\Bd F wr M tk) \/ (i=J Q 1/\Bd F wr { M with p0:=M.p0.wr n } tk) \/ (i=J Q 2/\Bd F wr (M.putM 0 n) tk))) (λi _=>2-(intOf i).toNat)
 case atStart=>exact⟨Bt.refl _ _,aj ⟨D,H.out⟩⟩
 case round =>
  obtain⟨m,hrel⟩:=hrel;have j:=hid m;clear m c0 c1 c2 c3 c4 c5 c f;rcases hrel with⟨rfl,hB⟩|⟨rfl,hB⟩|⟨rfl,hB⟩
  ·obtain⟨c0,c1,c2,c3,c4,c5,c,f⟩:=hB.padC
   have a:=hid hB;clear hB;go_wp2;go_region_with (go_at_call 241;refine(zlk _ _ n _ _ k).mono ?_;rintro e w1 ⟨rfl,b⟩;obtain⟨o,x1,x2,x3,p,q,r,t⟩:=((a.out.over _).drew.kept b).padC)
   all_goals go_wp2
   all_goals
    refine⟨⟨?_,ao (aj ⟨D,?_⟩)⟩,by decide⟩
    ·exact Bt.sets a.out.nd [J au M.p0.d,ν (et n),J au (ir (et n) M.p0.d M.p0.s)] 35 _ (Mv.trans j.out (Bt.below a.out (bw (stA (aR _) _).drew b)))
    ·exact((a.out.over _).drew.kept b).puts (M':={ M with p0:=M.p0.wr n }) (tk':=tk) 35 [J au M.p0.d,ν (et n),J au (ir (et n) M.p0.d M.p0.s)] (by simp) D ⟨D,D,D,D,D⟩ { a.out.fit with main:=a.out.fit.main,p0:=Pd.wr_ok a.out.fit.p0 n }
  ·obtain⟨c0,c1,c2,c3,c4,c5,c,f⟩:=hB.padC
   have a:=hid hB;clear hB;go_wp2;go_region_with (go_at_call 241;refine(zlk _ _ n _ _ k).mono ?_;rintro e w1 ⟨rfl,b⟩;obtain⟨o,x1,x2,x3,p,q,r,t⟩:=((a.out.over _).drew.kept b).padC)
   all_goals go_wp2
   all_goals
    refine⟨⟨?_,ao (ao ⟨D,?_⟩)⟩,by decide⟩
    ·exact Bt.sets a.out.nd [J au M.p1.d,ν (et n),J au (ir (et n) M.p1.d M.p1.s)] 38 _ (Mv.trans j.out (Bt.below a.out (bw (stA (aR _) _).drew b)))
    ·exact((a.out.over _).drew.kept b).puts (M':=M.putM 0 n) (tk':=tk) 38 [J au M.p1.d,ν (et n),J au (ir (et n) M.p1.d M.p1.s)] (by simp) D ⟨D,D,D,D,D⟩ (show Mach.fit { M with p0:=M.p0.wr n,p1:=M.p1.wr n } from { a.out.fit with main:=a.out.fit.main,p1:=Pd.wr_ok a.out.fit.p1 n })
  ·have a:=hid hB
   clear hB;go_wp2;go_end0;exact⟨D,a.out,j.out⟩
end
def kZ(M:Mach)(S:Sl)(ζ B:List π):List π:=υ M S++([J Q 0,κ G 0 0]++(ζ++B))
def lI:List π:=.pointer G :: aI::ai 64 aI
theorem xi:lI.length=66:=by simp[lI]
theorem zeB(M:Mach)(S:Sl)(ζ B:List π)(a:ζ.length=66)(hB:B.length=66):(kZ M S ζ B).length=209:=by
 unfold kZ;simp only[az,dG,a,hB];rfl
theorem zrw(M:Mach)(S:Sl)(ζ a B:List π)(h:a.length=ζ.length):kr (kZ M S ζ B) 77 a=kZ M S a B:=by
 have e:∀ X:List π,kZ M S X B=(υ M S++[J Q 0,κ G 0 0])++(X++B):=λX=>by unfold kZ;simp only[bK]
 rw[e ζ,e a];exact tJ B a ζ (υ M S++[J Q 0,κ G 0 0]) h
theorem zrx(M:Mach)(S:Sl)(ζ B a:List π)(b:ζ.length=66)(h:a.length=B.length):kr (kZ M S ζ B) 143 a=kZ M S ζ a:=by
 have e:∀ X:List π,kZ M S ζ X=((υ M S++[J Q 0,κ G 0 0])++ζ)++(X++[]):=λX=>by unfold kZ;simp only[bK,cH]
 rw[e B,e a];have c:((υ M S++[Value.int Q 0,κ G 0 0])++ζ).length=143:=by simp only[az,dG,b];rfl
 rw[<- c];exact tJ [] a B _ h
theorem zlF:(Tryz.prog.info? 140).map (·.size)=A 66:=by kernel_rfl
def boE(n:Nat)(a:Nat):Env:={ mE n with ab:=a,sb:=λk=>a+3+2*k,sa:=λk=>a+4+2*k }
theorem wpList_build{P:Program}{ops:Array Oper}{rest:List Oper}{op:Oper}{a:Act}{w:u}{η:Exit->Act->u->Prop}(c:op.guard=G)(t:aJ)(parts:Array (Nat × Operand))(d:op.op=.build t parts)(v:π)
 (b:(dw t (parts.map λ(i,x)=>(i,a.eval x))).run P w=.ok v w) (h:wpList P ops η rest (a.put op.dst v) w):wpList P ops η (op::rest) a w :=
 gj c λK e=>by
  unfold Oper.wp execOp;simp only[d,iB,b,fQ,i7];exact e _ _ h
theorem ztS(M:Mach)(S:Sl)(w:u):(dw 142 #[(0,ac (υ M S).toArray)]).run ω w=.ok (ac (kZ M S lI lI).toArray) w:=by kernel_rfl
theorem zdF{P:Program}{a:Act}{o:Oper}{w:u}(t:aJ)(parts:Array (Nat × Operand))(c:o.op=.build t parts)(v:π)(b:(dw t (parts.map λ(i,x)=>(i,a.eval x))).run P w=.ok v w):(execOp a.eval o).run P w=.ok (.value v) w:=by
 unfold execOp;simp only[c,iB,b,fQ,i7]
theorem AD{B g:Nat}{M:Mach}{S:Sl}{ι:u}{j:Nat}(h:rI B M S ι j):∃ k,Rw ι (S.get j) k (M.byt j)/\((k=g+1/\S.get j=κ G 0 0) \/ (B<=k/\k<ι.heap.size /\ ∃ n c,S.get j=κ (A ⟨k,0,G⟩) n c)):=by
 rcases h with⟨e1,e2⟩|⟨b,a,e1,e2,e3,e4⟩
 ·exact⟨g+1,aj ⟨e1,e2⟩,aj ⟨D,e1⟩⟩
 ·exact⟨b,ao ⟨a,e1,e2,e4⟩,ao ⟨e3,e4.z,_,_,e1⟩⟩
def sM(g n:Nat):List π:=pt g 30::ik 107 g 0::eP (vP g (mE n)).rdM (vP g (mE n)).wrM 32
def sA(g a:Nat):List π:=pt g 31::ik 109 g 0::tW a g 24
theorem zC(g n:Nat):(sM g n).length=66:=by unfold sM;simp[se]
theorem zp5(g n:Nat):(sA g n).length=66:=by unfold sA;simp[zn2]
theorem zry(B g k0 k1 k2 b c n a:Nat)(S:Sl)(M:Mach):(Fx.mk B g k0 k1 k2 b c S (boE n a)).cells M Tk.zero=kZ M S (sM g n) (sA g a):=by kernel_rfl
theorem Bd.make{w2 c:u}{M:Mach}{S1:Sl}{B H n a:Nat}(d:OwnK H M S1 5 w2)(hB:B<=H)(hB2:H<=w2.heap.size)(y:M.fit)(p:Bx c w2.heap.size (kZ M S1 (sM w2.heap.size n) (sA w2.heap.size a)))(l:∀ b,b<w2.heap.size->c.heap[b]?=w2.heap[b]?)
 (hE:rG w2.heap.size (mE n) c) (hn:w2.heap.size<n) (o:Bx c a [pt w2.heap.size 0] /\ ∀ k,k<24->Bx c (a+3+2*k) [pt w2.heap.size 0]/\Bx c (a+4+2*k) [J Q k]) (ha:w2.heap.size<a) :
 ∃ F:Fx,F.B=B/\F.g=w2.heap.size/\(F.B<=F.mr/\F.B<=F.ar)/\Bd F c M Tk.zero:=by
 obtain⟨k0,r0,T⟩:=AD (g:=w2.heap.size) (d.own 0 (by omega));obtain⟨k1,r1,d1⟩:=AD (g:=w2.heap.size) (d.own 1 (by omega));obtain⟨k2,r2,d2⟩:=AD (g:=w2.heap.size) (d.own 2 (by omega));obtain⟨f,r3,d3⟩:=AD (g:=w2.heap.size) (d.own 3 (by omega));obtain⟨j,r4,d4⟩:=AD (g:=w2.heap.size) (d.own 4 (by omega));have hz:=p.z;have I:Rw c S1.mr k0 M.mrom:=r0.same (by omega) (λh=>l _ h);have L:Rw c S1.ar k1 M.arom:=r1.same (by omega) (λh=>l _ h);have q:Rw c S1.ra k2 M.ram:=r2.same (by omega) (λh=>l _ h);have r:Rw c S1.ow f M.own:=r3.same (by omega) (λh=>l _ h);have s:Rw c S1.vi j M.video:=r4.same (by omega) (λh=>l _ h);have n2:S1.get 2 ≠ κ G 0 0:=λe=>by
  obtain⟨t,e1,_⟩:=q.some (by rw[y.ram];omega);have:S1.get 2=S1.ra:=D;rw[this,e1] at e;cases e
 have n3:S1.get 3 ≠ κ G 0 0:=λe=>by
  obtain⟨t,e1,_⟩:=r.some (by rw[y.own];omega);have:S1.get 3=S1.ow:=D;rw[this,e1] at e;cases e
 have n4:S1.get 4 ≠ κ G 0 0:=λe=>by
  obtain⟨t,e1,_⟩:=s.some (by rw[y.video];omega);have:S1.get 4=S1.vi:=D;rw[this,e1] at e;cases e
 rcases d2 with⟨_,e⟩|⟨b2,z2,_,_,e2⟩
 ·exact absurd e n2
 rcases d3 with⟨_,e⟩|⟨b3,z3,_,_,e3⟩
 ·exact absurd e n3
 rcases d4 with⟨_,e⟩|⟨b4,z4,_,_,e4⟩
 ·exact absurd e n4
 have N:=d.dist 2 3 _ _ _ _ _ _ (by omega) (by omega) (by omega) e2 e3;have P:=d.dist 2 4 _ _ _ _ _ _ (by omega) (by omega) (by omega) e2 e4;have R:=d.dist 3 4 _ _ _ _ _ _ (by omega) (by omega) (by omega) e3 e4;have y0:k0≠w2.heap.size/\k0≠k2/\k0≠f/\k0≠j:=by
  rcases T with⟨e,_⟩|⟨_,z0,_,_,m⟩
  ·omega
  ·have:=d.dist 0 2 _ _ _ _ _ _ (by omega) (by omega) (by omega) m e2
   have:=d.dist 0 3 _ _ _ _ _ _ (by omega) (by omega) (by omega) m e3;have:=d.dist 0 4 _ _ _ _ _ _ (by omega) (by omega) (by omega) m e4;exact⟨by omega,by assumption,by assumption,by assumption⟩
 have y1:k1≠w2.heap.size/\k1≠k2/\k1≠f/\k1≠j:=by
  rcases d1 with⟨e,_⟩|⟨_,z0,_,_,m⟩
  ·omega
  ·have:=d.dist 1 2 _ _ _ _ _ _ (by omega) (by omega) (by omega) m e2
   have:=d.dist 1 3 _ _ _ _ _ _ (by omega) (by omega) (by omega) m e3;have:=d.dist 1 4 _ _ _ _ _ _ (by omega) (by omega) (by omega) m e4;exact⟨by omega,by assumption,by assumption,by assumption⟩
 have hT:∀ x,w2.heap.size<x->¬ (x=w2.heap.size \/ x=k2 \/ x=f \/ x=j):=λx E h=>by omega
 obtain⟨U,V,W,X,Z,E5,E6,E7,E8,E9,w⟩:=hE;refine⟨⟨B,w2.heap.size,k0,k1,k2,f,j,S1,boE n a⟩,D,D,⟨by show B<=k0;rcases T with⟨e,_⟩|⟨e,_⟩ <;> omega,by show B<=k1;rcases d1 with⟨e,_⟩|⟨e,_⟩ <;> omega⟩,by show Bx c w2.heap.size ((Fx.mk B w2.heap.size k0 k1 k2 f j S1 (boE n a)).cells M Tk.zero);rw[zry];exact p,I,L,q,r,s,λx v E=>?_,⟨⟨by show B<=w2.heap.size;omega,by show B<=k2;omega,by show B<=f;omega,by show B<=j;omega⟩,⟨by show w2.heap.size≠k2;omega,by show w2.heap.size≠f;omega,by show w2.heap.size≠j;omega,N,P,R⟩,λh=>?_,λh=>?_,λx v E=>?_⟩,y,by show B<=c.heap.size;omega,eU _ _ _ _,λk l=>by cases l⟩
 ·cases E
  ·exact⟨U.z,U.at 0 _ D⟩
  ·exact⟨V.z,V.at 0 _ D⟩
  ·exact⟨W.z,W.at 0 _ D⟩
  ·exact⟨X.z,X.at 0 _ D⟩
  ·exact⟨Z.z,Z.at 0 _ D⟩
  ·exact⟨E5.z,E5.at 0 _ D⟩
  ·exact⟨E6.z,E6.at 0 _ D⟩
  ·exact⟨E7.z,E7.at 0 _ D⟩
  ·exact⟨E8.z,E8.at 0 _ D⟩
  ·exact⟨E9.z,E9.at 0 _ D⟩
  ·exact⟨w.z,w.at 0 _ D⟩
  ·exact⟨o.1.z,o.1.at 0 _ D⟩
  ·rename_i i hi
   exact⟨(o.2 i hi).1.z,(o.2 i hi).1.at 0 _ D⟩
  ·rename_i i hi
   exact⟨(o.2 i hi).2.z,(o.2 i hi).2.at 0 _ D⟩
 ·have h':k0=w2.heap.size \/ k0=k2 \/ k0=f \/ k0=j:=h
  omega
 ·have h':k1=w2.heap.size \/ k1=k2 \/ k1=f \/ k1=j:=h
  omega
 ·refine hT x ?_
  cases E
  ·show w2.heap.size<n+1;omega
  ·show w2.heap.size<n+2;omega
  ·show w2.heap.size<n+3;omega
  ·show w2.heap.size<n+4;omega
  ·show w2.heap.size<n+5;omega
  ·show w2.heap.size<n+6;omega
  ·show w2.heap.size<n+7;omega
  ·show w2.heap.size<n+8;omega
  ·show w2.heap.size<n+9;omega
  ·show w2.heap.size<n+10;omega
  ·show w2.heap.size<n+11;omega
  ·exact ha
  ·rename_i i hi
   show w2.heap.size<a+3+2*i;omega
  ·rename_i i hi
   show w2.heap.size<a+4+2*i;omega
end Go.Proofs.YthghjlinhokimaaGreatDoor
