/-
  Parts of a proof, joined.
-/
import Derived.Test.YthghjlinhokimaaGreatDoorZbA
import Derived.Test.YthghjlinhokimaaGreatDoorZb21
import Derived.Test.YthghjlinhokimaaGreatDoorZb22
set_option linter.all false
set_option maxRecDepth 100000
set_option maxHeartbeats 3200000
open Option renaming none->G,some->A
open Go renaming World->u,Value->π,Calls->Δ,TypeId->aJ,Program->bX,Oper->cG,Operand->dk,Act->dH
open Go.Proofs.Tryz renaming prog->ω
open Bool renaming true->Γ
open Go.Act renaming put->ag
open List renaming replicate->ai
open Go.Result renaming andThen->aE
open Go.Region renaming wanted->b9,Mode->iV
open Go.Builtin renaming append_->fe,lenOf->jo
open Go.Instr renaming makeSlice->fZ
open Go.Value renaming int->J,slice->κ,agg->ac
open Go.IntKind renaming i64->Q,u8->au
open Go.Ending renaming returned->μ
open Go.Obj renaming cells->χ
namespace Go.Proofs.YthghjlinhokimaaGreatDoor
open Go.ChangeShapes Go.WideShapes Go.ChangeAt Go.RowKit Go.Proofs.Tryz
def dr(l1 l2:List UInt8):Mach:={ aD with mrom:=l1,arom:=l2,ram:=ai 128 0,own:=ai 64 0,video:=ai 256 0,held:=Γ }
theorem zjZ:C.Cpu.zero.ok:=⟨D,λx a=>by simp[C.Cpu.zero] at a;omega,by decide,by decide⟩
theorem z8:0<=(0:Int)/\(0:Int)<=255:=by decide
theorem rB:0<=(0:Int)/\(0:Int)<=65535:=by decide
theorem zok:aD.ok:=⟨zjZ,zjZ,⟨z8,z8⟩,⟨z8,z8⟩,rB,rB,⟨⟨rB,rB,z8,rB⟩,⟨rB,rB,z8,rB⟩,⟨rB,rB,z8,rB⟩⟩,rB,rB,z8,z8⟩
theorem zj0(l1 l2:List UInt8)(h1:l1.length<=1024)(h2:l2.length<=1024):(dr l1 l2).fit :=
 ⟨⟨zjZ,zjZ,⟨z8,z8⟩,⟨z8,z8⟩,rB,rB,zok.s,rB,rB,z8,z8⟩,h1,h2,by simp[dr],by simp[dr],by simp[dr],(by decide:0<=(0:Int)/\(0:Int)<=15),⟨(by decide:0<=(0:Int)),(by decide:(0:Int)<=9),(by decide:0<=(0:Int)),(by decide:(0:Int)<=63),(by decide:0<=(0:Int)),(by decide:(0:Int)<=20001)⟩,(by decide:0<=(0:Int)/\(0:Int)<=200000),(by decide:0<=(0:Int)/\(0:Int)<=0+20000),(by decide:0<=(0:Int)/\(0:Int)<=0+20000)⟩
theorem rr(a1 a2:Option Addr)(a c1 b c2 b1 b2 b3:Nat)(l1 l2:List UInt8)(w:u):(Instr.build 41 #[(2,κ a1 a c1),(3,κ a2 b c2),(4,κ (A ⟨b1,0,G⟩) 128 128),(5,κ (A ⟨b2,0,G⟩) 64 64),(6,κ (A ⟨b3,0,G⟩) 256 256),(14,.bool Γ)]).run ω w =
 .ok (ac (υ (dr l1 l2) ⟨κ a1 a c1,κ a2 b c2,κ (A ⟨b1,0,G⟩) 128 128,κ (A ⟨b2,0,G⟩) 64 64,κ (A ⟨b3,0,G⟩) 256 256⟩).toArray) w:=by kernel_rfl
theorem rt{P:bX}{a:dH}{o:cG}{w:u}(t:aJ)(i0 c i2 i3 i4 i5:Nat)(d x1 x2 x3 e f:dk)(h:o.op=.build t #[(i0,d),(c,x1),(i2,x2),(i3,x3),(i4,e),(i5,f)])(v0 g v2 v3 v4 v5 v:π)(i:a.eval d=v0)(h1:a.eval x1=g)(h2:a.eval x2=v2)(h3:a.eval x3=v3)(h4:a.eval e=v4)(j:a.eval f=v5)
 (b:(Instr.build t #[(i0,v0),(c,g),(i2,v2),(i3,v3),(i4,v4),(i5,v5)]).run P w=.ok v w):(execOp a.eval o).run P w=.ok (.value v) w :=
 zdF t _ h v (by simp only[fy,cI,dQ,i,h1,h2,h3,h4,j];exact b)
theorem zj1{W:u}{n b:Nat}(h:Bx W b (ai n (J au 0)))(e:0<n):sliceAt W (κ (A ⟨b,0,G⟩) n n) (ai n 0):=by
 refine Or.inr ⟨b,0,n,by simp,by simp,h.z,λj c a=>?_⟩;rw[aX];refine h.at j _ ?_;have d:=(ay.1 a).1;simp only[iN] at d;rw[qM,am d] at a ⊢;cases a;rfl
structure NB (w : u) (F : Fx) (M : Mach) (tk : Tk) (L : List π) (ι : u) : Prop where
 bd:Bd F ι M tk
 low:Below w.heap.size w ι
 res:Bx ι w.heap.size L
 B:w.heap.size<F.B
 r:F.B<=F.mr/\F.B<=F.ar
theorem NB.go{w ι Y':u}{F:Fx}{M M':Mach}{tk tk':Tk}{L:List π}(h:NB w F M tk L ι)(hB:Bd F Y' M' tk')(a:Bt F ι Y'):NB w F M' tk' L Y':=by
 have hb:=h.B;exact⟨hB,h.low.trans ((Mv.below a).mono (by omega)),h.res.under (Mv.below a) hb,hb,h.r⟩
theorem NB.kept{w ι Y':u}{F:Fx}{M:Mach}{tk:Tk}{L:List π}(h:NB w F M tk L ι)(hb:Below ι.heap.size ι Y'):NB w F M tk L Y':=h.go (h.bd.kept hb) (Mv.of_below h.bd.big hb)
theorem NB.fin{w ι:u}{F:Fx}{M:Mach}{tk:Tk}{L a:List π}(h:NB w F M tk L ι)(c:a.length=L.length):Below w.heap.size w (ι.setCells w.heap.size 0 a)/\Bx (ι.setCells w.heap.size 0 a) w.heap.size a/\cf (ι.setCells w.heap.size 0 a) F.S M:=by
 have b:=h.res.puts 0 a (by omega);rw[mK _ _ c] at b;have lo:=h.bd.nd.lo;have hB:=h.B;have e:=h.r;refine⟨Bl.puts h.low (by omega) _,b,λj d=>?_⟩;rcases five d with rfl|rfl|rfl|rfl|rfl
 ·exact(h.bd.mr.offB (by omega) _ _).slice
 ·exact(h.bd.ar.offB (by omega) _ _).slice
 ·exact(h.bd.ra.offB (by omega) _ _).slice
 ·exact(h.bd.ow.offB (by omega) _ _).slice
 ·exact(h.bd.vi.offB (by omega) _ _).slice
structure NF (w : u) (l1 l2 : List UInt8) (S : Sl) (ι : u) : Prop where
 low:Below w.heap.size w ι
 res:Bx ι w.heap.size (υ aD aP)
 sl:cf ι S (dr l1 l2)
theorem NF.of{w ι:u}{l1 l2:List UInt8}{a1 a2:Option Addr}{c1 c2 b1 b2 b3:Nat}(b:sliceAt w (κ a1 l1.length c1) l1)(c:sliceAt w (κ a2 l2.length c2) l2)(a:Below w.heap.size w ι)(d:Bx ι w.heap.size (υ aD aP))
 (x1:Bx ι b1 (ai 128 (J au 0))) (x2:Bx ι b2 (ai 64 (J au 0))) (x3:Bx ι b3 (ai 256 (J au 0))):NF w l1 l2 ⟨κ a1 l1.length c1,κ a2 l2.length c2,κ (A ⟨b1,0,G⟩) 128 128,κ (A ⟨b2,0,G⟩) 64 64,κ (A ⟨b3,0,G⟩) 256 256⟩ ι :=
 ⟨a,d,λj e=>by
   rcases five e with rfl|rfl|rfl|rfl|rfl
   ·exact b.kept a
   ·exact c.kept a
   ·exact zj1 x1 (by omega)
   ·exact zj1 x2 (by omega)
   ·exact zj1 x3 (by omega)⟩
theorem yS(w:u):(fZ 26 (J Q 128) (J Q 128)).run ω w=.ok (κ (A ⟨w.heap.size,0,G⟩) 128 128) (w.alloc (χ (ai 128 (J au 0)).toArray 5)):=by kernel_rfl
theorem lf(w:u)(k:Nat)(h:w.heap.size=k):(fZ 26 (J Q 128) (J Q 128)).run ω w=.ok (κ (A ⟨k,0,G⟩) 128 128) (w.alloc (χ (ai 128 (J au 0)).toArray 5)):=by subst h;exact yS w
theorem CA(w:u):(fZ 26 (J Q 64) (J Q 64)).run ω w=.ok (κ (A ⟨w.heap.size,0,G⟩) 64 64) (w.alloc (χ (ai 64 (J au 0)).toArray 5)):=by kernel_rfl
theorem oq(w:u)(k:Nat)(h:w.heap.size=k):(fZ 26 (J Q 64) (J Q 64)).run ω w=.ok (κ (A ⟨k,0,G⟩) 64 64) (w.alloc (χ (ai 64 (J au 0)).toArray 5)):=by subst h;exact CA w
theorem mkV0(w:u):(fZ 26 (J Q 256) (J Q 256)).run ω w=.ok (κ (A ⟨w.heap.size,0,G⟩) 256 256) (w.alloc (χ (ai 256 (J au 0)).toArray 5)):=by kernel_rfl
theorem si(w:u)(k:Nat)(h:w.heap.size=k):(fZ 26 (J Q 256) (J Q 256)).run ω w=.ok (κ (A ⟨k,0,G⟩) 256 256) (w.alloc (χ (ai 256 (J au 0)).toArray 5)):=by subst h;exact mkV0 w
theorem zua{P:bX}{ops:Array cG}{op:cG}{a:dH}{w w':u}{K:dH->u->Prop}{η:Exit->dH->u->Prop}{E:Prop}(d:op.guard=G)(t:aJ)(l c:dk)(g:op.op=.makeSlice t l c)(e f v:π)(i:a.eval l=e)(hc:a.eval c=f)
 (b:(fZ t e f).run P w=.ok v w') (h:K (a.put op.dst v) w'):if b9 op (yielded ops a.tmps)=Γ then Oper.wp P op a w K η else E:=by
 rw[am (by simp[b9,d])];unfold Oper.wp execOp;simp only[g,i,hc,iB,b,fQ,i7];exact h
theorem lD{P:bX}{md:iV}{ops:Array cG}{η:Exit->dH->u->Prop}{S:u->Prop}{fuel:Nat}{b:Array Bool}{a:dH}{w w':u}{i:Nat}{rs:List Nat}{op:cG}(hi:ops[i]?=A op)(e:op.guard=G)(t:aJ)(l c:dk)(j:op.op=.makeSlice t l c)(f g v:π)(k:a.eval l=f)(hc:a.eval c=g)
 (d:(fZ t f g).run P w=.ok v w') (m:S w') (h:wpAnyH P md ops η S fuel (b.setIfInBounds i Γ) (a.put op.dst v) w') (n:AllReadyH P md ops η S fuel b a w rs):AllReadyH P md ops η S fuel b a w (i::rs) :=
 AllReadyH.cons hi (λK o=>zua e t l c j f g v k hc d (o.out _ _ m (λ_=>h))) n
theorem kN{P:bX}{md:iV}{ops:Array cG}{η:Exit->dH->u->Prop}{S:u->Prop}{fuel:Nat}{b:Array Bool}{a:dH}{w:u}(K:u->Prop)(h:K w)(k:∀ w',K w'->wpAnyH P md ops η S fuel b a w'):wpAnyH P md ops η S fuel b a w:=k w h
def dv(l1 l2:List UInt8):Mach:={ dr l1 l2 with main:=gM ((dr l1 l2).lookM 0) ((dr l1 l2).lookM 1) }
theorem zzl{w ι:u}{F:Fx}{l1 l2:List UInt8}{L:List π}(h:NB w F (dr l1 l2) Tk.zero L ι):NB w F (dv l1 l2) Tk.zero L (ι.setCells F.g 0 (j5 ((dr l1 l2).lookM 0*256+(dr l1 l2).lookM 1))):=by
 have a:=AB _ _ (sD (dr l1 l2) 0) (sD (dr l1 l2) 1);have b:(dv l1 l2).fit:=Mach.fit.of h.bd.fit { h.bd.fit with main:=a } ⟨D,D,D,D,D⟩ D ⟨D,D,D⟩ ⟨D,D⟩ (Or.inl D);rw[znZ];exact h.go (h.bd.puts (M':=dv l1 l2) (tk':=Tk.zero) 0 (bY (gM ((dr l1 l2).lookM 0) ((dr l1 l2).lookM 1))) (by simp[bY]) (F.putMain _ _ _) ⟨D,D,D,D,D⟩ b) (Bt.sets h.bd.nd _ 0 _ (Bt.refl _ _))
theorem zK(l1 l2:List UInt8)(N v2:π)(w:u)(h1:sliceAt w N l1)(h2:sliceAt w v2 l2)(E:l1.length<=1024)(H:l2.length<=1024):Δ ω 37 #[N,v2] w λe w'=>∃ S',e=μ (.tuple #[ac (υ (dv l1 l2) S').toArray,J Q 0])/\cf w' S' (dv l1 l2)/\(dv l1 l2).fit/\gA (w.heap.size+1) S'/\Below w.heap.size w w':=by
 obtain⟨a1,c1,e1⟩:=tV h1;obtain⟨a2,c2,e2⟩:=tV h2;subst e1 e2;have i:=hid h1;have j:=hid h2;have k:=hid (Bx.new w (υ aD aP) 41 (b:=w.heap.size) D);clear h1 h2;go_enter func37,ntmps37;go_wp2;refine wp_region_held_drew (S:=λ_=>True) (by kernel_rfl) trivial ?_;intro _;refine bH 0 trivial ?_;refine bH 1 trivial ?_;refine wpAnyH_ready (rs:=[2,3,4]) (by kernel_rfl) (by simp) ?_;refine lD (op:=⟨A 11,_,_,_,_,G⟩) D D 26 _ _ D (J Q 128) (J Q 128) _ D D (lf _ (w.heap.size+1) (by simp)) trivial ?_ (lD (op:=⟨A 12,_,_,_,_,G⟩) D D 26 _ _ D (J Q 64) (J Q 64) _ D D (oq _ (w.heap.size+1) (by simp)) trivial ?_ (lD (op:=⟨A 13,_,_,_,_,G⟩) D D 26 _ _ D (J Q 256) (J Q 256) _ D D (si _ (w.heap.size+1) (by simp)) trivial ?_ AllReadyH.nil));all_goals simp only[ag,xA,xB,xC]
 refine wpAnyH_ready (rs:=[3,4]) (by kernel_rfl) (by simp) ?_;refine lD (op:=⟨A 12,_,_,_,_,G⟩) D D 26 _ _ D (J Q 64) (J Q 64) _ D D (oq _ (w.heap.size+1+1) (by simp)) trivial ?_ (lD (op:=⟨A 13,_,_,_,_,G⟩) D D 26 _ _ D (J Q 256) (J Q 256) _ D D (si _ (w.heap.size+1+1) (by simp)) trivial ?_ AllReadyH.nil);rotate_left 2;refine wpAnyH_ready (rs:=[2,4]) (by kernel_rfl) (by simp) ?_;refine lD (op:=⟨A 11,_,_,_,_,G⟩) D D 26 _ _ D (J Q 128) (J Q 128) _ D D (lf _ (w.heap.size+1+1) (by simp)) trivial ?_ (lD (op:=⟨A 13,_,_,_,_,G⟩) D D 26 _ _ D (J Q 256) (J Q 256) _ D D (si _ (w.heap.size+1+1) (by simp)) trivial ?_ AllReadyH.nil);rotate_left 2;refine wpAnyH_ready (rs:=[2,3]) (by kernel_rfl) (by simp) ?_;refine lD (op:=⟨A 11,_,_,_,_,G⟩) D D 26 _ _ D (J Q 128) (J Q 128) _ D D (lf _ (w.heap.size+1+1) (by simp)) trivial ?_ (lD (op:=⟨A 12,_,_,_,_,G⟩) D D 26 _ _ D (J Q 64) (J Q 64) _ D D (oq _ (w.heap.size+1+1) (by simp)) trivial ?_ AllReadyH.nil)
 rotate_left 2;all_goals simp only[ag,xA,xB,xC]
 refine wpAnyH_ready (rs:=[4]) (by kernel_rfl) (by simp) ?_;refine lD (op:=⟨A 13,_,_,_,_,G⟩) D D 26 _ _ D (J Q 256) (J Q 256) _ D D (si _ (w.heap.size+1+1+1) (by simp)) trivial ?_ AllReadyH.nil;simp only[ag,xA,xB,xC];refine kN (NF w l1 l2 ⟨κ a1 l1.length c1,κ a2 l2.length c2,κ (A ⟨_,0,G⟩) 128 128,κ (A ⟨_,0,G⟩) 64 64,κ (A ⟨_,0,G⟩) 256 256⟩) (NF.of (b1:=w.heap.size+1) (b2:=w.heap.size+1+1) (b3:=w.heap.size+1+1+1) i.out j.out ?_ ?_ ?_ ?_ ?_) ?_
 ·repeat' (first|exact aR _|refine di ?_|refine stA ?_ _)
 ·repeat' (first|exact k.out|refine Bx.drew ?_|refine Bx.over ?_ _)
 ·repeat' (first|exact Bx.new _ (ai 128 (J au 0)) _ (by simp)|refine Bx.drew ?_|refine Bx.over ?_ _)
 ·repeat' (first|exact Bx.new _ (ai 64 (J au 0)) _ (by simp)|refine Bx.drew ?_|refine Bx.over ?_ _)
 ·repeat' (first|exact Bx.new _ (ai 256 (J au 0)) _ (by simp)|refine Bx.drew ?_|refine Bx.over ?_ _)
 intro ι a;have d:=hid a;clear a;refine jW 5 (ac (υ (dr l1 l2) ⟨κ a1 l1.length c1,κ a2 l2.length c2,κ (A ⟨w.heap.size+1,0,G⟩) 128 128,κ (A ⟨w.heap.size+1+1,0,G⟩) 64 64,κ (A ⟨w.heap.size+1+1+1,0,G⟩) 256 256⟩).toArray) D (λw' _=>rt 41 2 3 4 5 6 14 _ _ _ _ _ _ D _ _ _ _ _ _ _ D D D D D D (rr a1 a2 l1.length c1 l2.length c2 (w.heap.size+1) (w.heap.size+1+1) (w.heap.size+1+1+1) l1 l2 w')) trivial ?_;rotate_left 1;refine wpAnyH_ready (rs:=[3]) (by kernel_rfl) (by simp) ?_;refine lD (op:=⟨A 12,_,_,_,_,G⟩) D D 26 _ _ D (J Q 64) (J Q 64) _ D D (oq _ (w.heap.size+1+1+1) (by simp)) trivial ?_ AllReadyH.nil;simp only[ag,xA,xB,xC];refine kN (NF w l1 l2 ⟨κ a1 l1.length c1,κ a2 l2.length c2,κ (A ⟨_,0,G⟩) 128 128,κ (A ⟨_,0,G⟩) 64 64,κ (A ⟨_,0,G⟩) 256 256⟩) (NF.of (b1:=w.heap.size+1) (b2:=w.heap.size+1+1+1) (b3:=w.heap.size+1+1) i.out j.out ?_ ?_ ?_ ?_ ?_) ?_
 ·repeat' (first|exact aR _|refine di ?_|refine stA ?_ _)
 ·repeat' (first|exact k.out|refine Bx.drew ?_|refine Bx.over ?_ _)
 ·repeat' (first|exact Bx.new _ (ai 128 (J au 0)) _ (by simp)|refine Bx.drew ?_|refine Bx.over ?_ _)
 ·repeat' (first|exact Bx.new _ (ai 64 (J au 0)) _ (by simp)|refine Bx.drew ?_|refine Bx.over ?_ _)
 ·repeat' (first|exact Bx.new _ (ai 256 (J au 0)) _ (by simp)|refine Bx.drew ?_|refine Bx.over ?_ _)
 intro ι a;have d:=hid a;clear a;refine jW 5 (ac (υ (dr l1 l2) ⟨κ a1 l1.length c1,κ a2 l2.length c2,κ (A ⟨w.heap.size+1,0,G⟩) 128 128,κ (A ⟨w.heap.size+1+1+1,0,G⟩) 64 64,κ (A ⟨w.heap.size+1+1,0,G⟩) 256 256⟩).toArray) D (λw' _=>rt 41 2 3 4 5 6 14 _ _ _ _ _ _ D _ _ _ _ _ _ _ D D D D D D (rr a1 a2 l1.length c1 l2.length c2 (w.heap.size+1) (w.heap.size+1+1+1) (w.heap.size+1+1) l1 l2 w')) trivial ?_;rotate_left 1;refine wpAnyH_ready (rs:=[4]) (by kernel_rfl) (by simp) ?_;refine lD (op:=⟨A 13,_,_,_,_,G⟩) D D 26 _ _ D (J Q 256) (J Q 256) _ D D (si _ (w.heap.size+1+1+1) (by simp)) trivial ?_ AllReadyH.nil;simp only[ag,xA,xB,xC];refine kN (NF w l1 l2 ⟨κ a1 l1.length c1,κ a2 l2.length c2,κ (A ⟨_,0,G⟩) 128 128,κ (A ⟨_,0,G⟩) 64 64,κ (A ⟨_,0,G⟩) 256 256⟩) (NF.of (b1:=w.heap.size+1+1) (b2:=w.heap.size+1) (b3:=w.heap.size+1+1+1) i.out j.out ?_ ?_ ?_ ?_ ?_) ?_
 ·repeat' (first|exact aR _|refine di ?_|refine stA ?_ _)
 ·repeat' (first|exact k.out|refine Bx.drew ?_|refine Bx.over ?_ _)
 ·repeat' (first|exact Bx.new _ (ai 128 (J au 0)) _ (by simp)|refine Bx.drew ?_|refine Bx.over ?_ _)
 ·repeat' (first|exact Bx.new _ (ai 64 (J au 0)) _ (by simp)|refine Bx.drew ?_|refine Bx.over ?_ _)
 ·repeat' (first|exact Bx.new _ (ai 256 (J au 0)) _ (by simp)|refine Bx.drew ?_|refine Bx.over ?_ _)
 intro ι a;have d:=hid a;clear a;refine jW 5 (ac (υ (dr l1 l2) ⟨κ a1 l1.length c1,κ a2 l2.length c2,κ (A ⟨w.heap.size+1+1,0,G⟩) 128 128,κ (A ⟨w.heap.size+1,0,G⟩) 64 64,κ (A ⟨w.heap.size+1+1+1,0,G⟩) 256 256⟩).toArray) D (λw' _=>rt 41 2 3 4 5 6 14 _ _ _ _ _ _ D _ _ _ _ _ _ _ D D D D D D (rr a1 a2 l1.length c1 l2.length c2 (w.heap.size+1+1) (w.heap.size+1) (w.heap.size+1+1+1) l1 l2 w')) trivial ?_;rotate_left 1;refine wpAnyH_ready (rs:=[2]) (by kernel_rfl) (by simp) ?_;refine lD (op:=⟨A 11,_,_,_,_,G⟩) D D 26 _ _ D (J Q 128) (J Q 128) _ D D (lf _ (w.heap.size+1+1+1) (by simp)) trivial ?_ AllReadyH.nil;simp only[ag,xA,xB,xC];refine kN (NF w l1 l2 ⟨κ a1 l1.length c1,κ a2 l2.length c2,κ (A ⟨_,0,G⟩) 128 128,κ (A ⟨_,0,G⟩) 64 64,κ (A ⟨_,0,G⟩) 256 256⟩) (NF.of (b1:=w.heap.size+1+1+1) (b2:=w.heap.size+1) (b3:=w.heap.size+1+1) i.out j.out ?_ ?_ ?_ ?_ ?_) ?_
 ·repeat' (first|exact aR _|refine di ?_|refine stA ?_ _)
 ·repeat' (first|exact k.out|refine Bx.drew ?_|refine Bx.over ?_ _)
 ·repeat' (first|exact Bx.new _ (ai 128 (J au 0)) _ (by simp)|refine Bx.drew ?_|refine Bx.over ?_ _)
 ·repeat' (first|exact Bx.new _ (ai 64 (J au 0)) _ (by simp)|refine Bx.drew ?_|refine Bx.over ?_ _)
 ·repeat' (first|exact Bx.new _ (ai 256 (J au 0)) _ (by simp)|refine Bx.drew ?_|refine Bx.over ?_ _)
 intro ι a;have d:=hid a;clear a;refine jW 5 (ac (υ (dr l1 l2) ⟨κ a1 l1.length c1,κ a2 l2.length c2,κ (A ⟨w.heap.size+1+1+1,0,G⟩) 128 128,κ (A ⟨w.heap.size+1,0,G⟩) 64 64,κ (A ⟨w.heap.size+1+1,0,G⟩) 256 256⟩).toArray) D (λw' _=>rt 41 2 3 4 5 6 14 _ _ _ _ _ _ D _ _ _ _ _ _ _ D D D D D D (rr a1 a2 l1.length c1 l2.length c2 (w.heap.size+1+1+1) (w.heap.size+1) (w.heap.size+1+1) l1 l2 w')) trivial ?_;rotate_left 1;refine wpAnyH_ready (rs:=[3]) (by kernel_rfl) (by simp) ?_;refine lD (op:=⟨A 12,_,_,_,_,G⟩) D D 26 _ _ D (J Q 64) (J Q 64) _ D D (oq _ (w.heap.size+1+1+1) (by simp)) trivial ?_ AllReadyH.nil;simp only[ag,xA,xB,xC];refine kN (NF w l1 l2 ⟨κ a1 l1.length c1,κ a2 l2.length c2,κ (A ⟨_,0,G⟩) 128 128,κ (A ⟨_,0,G⟩) 64 64,κ (A ⟨_,0,G⟩) 256 256⟩) (NF.of (b1:=w.heap.size+1+1) (b2:=w.heap.size+1+1+1) (b3:=w.heap.size+1) i.out j.out ?_ ?_ ?_ ?_ ?_) ?_
 ·repeat' (first|exact aR _|refine di ?_|refine stA ?_ _)
 ·repeat' (first|exact k.out|refine Bx.drew ?_|refine Bx.over ?_ _)
 ·repeat' (first|exact Bx.new _ (ai 128 (J au 0)) _ (by simp)|refine Bx.drew ?_|refine Bx.over ?_ _)
 ·repeat' (first|exact Bx.new _ (ai 64 (J au 0)) _ (by simp)|refine Bx.drew ?_|refine Bx.over ?_ _)
 ·repeat' (first|exact Bx.new _ (ai 256 (J au 0)) _ (by simp)|refine Bx.drew ?_|refine Bx.over ?_ _)
 intro ι a;have d:=hid a;clear a;refine jW 5 (ac (υ (dr l1 l2) ⟨κ a1 l1.length c1,κ a2 l2.length c2,κ (A ⟨w.heap.size+1+1,0,G⟩) 128 128,κ (A ⟨w.heap.size+1+1+1,0,G⟩) 64 64,κ (A ⟨w.heap.size+1,0,G⟩) 256 256⟩).toArray) D (λw' _=>rt 41 2 3 4 5 6 14 _ _ _ _ _ _ D _ _ _ _ _ _ _ D D D D D D (rr a1 a2 l1.length c1 l2.length c2 (w.heap.size+1+1) (w.heap.size+1+1+1) (w.heap.size+1) l1 l2 w')) trivial ?_;rotate_left 1;refine wpAnyH_ready (rs:=[2]) (by kernel_rfl) (by simp) ?_;refine lD (op:=⟨A 11,_,_,_,_,G⟩) D D 26 _ _ D (J Q 128) (J Q 128) _ D D (lf _ (w.heap.size+1+1+1) (by simp)) trivial ?_ AllReadyH.nil;simp only[ag,xA,xB,xC];refine kN (NF w l1 l2 ⟨κ a1 l1.length c1,κ a2 l2.length c2,κ (A ⟨_,0,G⟩) 128 128,κ (A ⟨_,0,G⟩) 64 64,κ (A ⟨_,0,G⟩) 256 256⟩) (NF.of (b1:=w.heap.size+1+1+1) (b2:=w.heap.size+1+1) (b3:=w.heap.size+1) i.out j.out ?_ ?_ ?_ ?_ ?_) ?_
 ·repeat' (first|exact aR _|refine di ?_|refine stA ?_ _)
 ·repeat' (first|exact k.out|refine Bx.drew ?_|refine Bx.over ?_ _)
 ·repeat' (first|exact Bx.new _ (ai 128 (J au 0)) _ (by simp)|refine Bx.drew ?_|refine Bx.over ?_ _)
 ·repeat' (first|exact Bx.new _ (ai 64 (J au 0)) _ (by simp)|refine Bx.drew ?_|refine Bx.over ?_ _)
 ·repeat' (first|exact Bx.new _ (ai 256 (J au 0)) _ (by simp)|refine Bx.drew ?_|refine Bx.over ?_ _)
 intro ι a;have d:=hid a;clear a;refine jW 5 (ac (υ (dr l1 l2) ⟨κ a1 l1.length c1,κ a2 l2.length c2,κ (A ⟨w.heap.size+1+1+1,0,G⟩) 128 128,κ (A ⟨w.heap.size+1+1,0,G⟩) 64 64,κ (A ⟨w.heap.size+1,0,G⟩) 256 256⟩).toArray) D (λw' _=>rt 41 2 3 4 5 6 14 _ _ _ _ _ _ D _ _ _ _ _ _ _ D D D D D D (rr a1 a2 l1.length c1 l2.length c2 (w.heap.size+1+1+1) (w.heap.size+1+1) (w.heap.size+1) l1 l2 w')) trivial ?_;rotate_left 1;all_goals
  refine gy 6 (λK P=>?_);go_simp;go_at_call 56
  refine(zG (dr l1 l2) _ _ d.out.sl.lens d.out.sl (zj0 l1 l2 E H) (by show (0:Int)<=20000;decide)).mono ?_;rintro e w1 ⟨F,l,rfl,R,m,h⟩;have T:=hid (NB.mk m (bw d.out.low h) (d.out.res.kept h) (by rw[l];exact d.out.res.z) R);clear m h l R;try go_wp2_with fail
  refine gL P trivial (λ_=>?_);clear P K d;refine bH 7 trivial ?_;refine bH 8 trivial ?_;refine bH 9 trivial ?_;refine bH 10 trivial ?_;refine bH 11 trivial ?_;refine wpAnyH_done (by kernel_rfl) ?_ _;refine Pl.cutE (NB w F (dr l1 l2) Tk.zero (υ aD aP)) T.out ?_;intro X U;have HX:=hid U;clear U T;go_wp2_with (first
   | (go_at_call 69;refine(zgh F.g _).mono ?_;rintro e w2 ⟨rfl,n⟩;have o:=hid (HX.out.kept n);clear n)
   | (go_at_call 68;refine(zfw o.out.bd 77 _ _ (zir 0 (by omega)) (zir 1 (by omega)) (sD _ _) (sD _ _)).mono ?_;rintro e w3 ⟨rfl,p,q⟩;have s:=hid (o.out.go p q);clear p q)
   | (refine wpList_store_mid D 25 _ _ D F.g 0 (j5 ((dr l1 l2).lookM 0*256+(dr l1 l2).lookM 1)).toArray D D (Bx.there s.out.bd.bx 0 15 (by rw[Fx.len];omega)) sX (zu _) ?_
      refine Pl.cutL (NB w F (dv l1 l2) Tk.zero (υ aD aP)) (zzl s.out) ?_;intro Z W;have f:=hid W;clear W)
   | (refine wpList_load_mid D 41 _ D F.g 0 D (υ (dv l1 l2) F.S) _ f.out.bd.row underlying41 D cn ?_)
   | (refine wpList_store_mid D 41 _ _ D w.heap.size 0 (υ (dv l1 l2) F.S).toArray D D (f.out.res.there 0 75 (by rw[dG];omega)) cn (iq _ _ f.out.bd.isSl) ?_
      refine Pl.cutL (λV=>Below w.heap.size w V/\Bx V w.heap.size (υ (dv l1 l2) F.S)/\cf V F.S (dv l1 l2)) (f.out.fin D) ?_;rintro V ⟨t,x,y⟩;have I:=hid t;have L:=hid x;have M:=hid y;clear t x y))
  have hl:=vQ _ _ L.out.c;refine Ξ (v:=.tuple #[ac (υ (dv l1 l2) F.S).toArray,J Q 0]) ?_ D ⟨F.S,D,M.out,f.out.bd.fit,(f.out.bd.slNew f.out.r).mono f.out.B,I.out⟩;simp only[results,results37];simp;show (aE (Sem.run ω (loadVar 41 ⟨w.heap.size,0,G⟩) V) _)=_;rw[hl];rfl
theorem zlK(B:Nat)(i:TypeInfo)(hi:Tryz.prog.info? 5=A i)(ty:aJ)(v:π)(n:Nat)(xs:List π){w:u}(b:w.ownsRow B 5 1 v n xs)(a:Option Addr)(c:Nat):(fe #[26,26] ty #[v,κ a 0 c]).run ω w=.ok v w:=by
 have e:=cQ (P:=ω) underlying26;have f:(Builtin.firstCells i.size 0 (κ a 0 c)).run ω w=.ok #[] w:=by
  cases a with
  | none=>exact kJ w i.size 0 0 c
  | some a=>exact kK w i.size 0 a 0 c [] (by simp) (λj v h=>by simp at h)
 rcases b.2 with⟨rfl,rfl⟩|⟨g,k,l,rfl,_,_,d,_⟩
 ·simp[fe,e,sizeOf,typeInfo,hi,jo,f]
 ·simp[fe,e,sizeOf,typeInfo,hi,jo,f,d,storeCells]
def mu(B:Nat)(v:π)(l:List UInt8)(W:u):Prop:=∃ k a,v=κ (A ⟨k,0,G⟩) l.length a/\l.length<=a/\B<=k/\Bx W k (gJ l) /\ ∃ cs,W.heap[k]?=A (χ cs 5 (0,0))
theorem mu.kept{B:Nat}{v:π}{l:List UInt8}{W w1:u}(h:mu B v l W)(hb:Below W.heap.size W w1):mu B v l w1:=by
 obtain⟨k,a,h1,h2,h3,h4,cs,b⟩:=h;exact⟨k,a,h1,h2,h3,h4.kept hb,cs,(hb.block _ h4.z).trans b⟩
theorem mu.lt{B:Nat}{v:π}{l:List UInt8}{W:u}(h:mu B v l W):∀ k,v.ownBlock=A k->B<=k/\k<W.heap.size:=λj e=>by
 obtain⟨k,a,h1,h2,h3,h4,_⟩:=h;rw[h1] at e;cases e;exact⟨h3,h4.z⟩
theorem mu.off{B b o:Nat}{v x:π}{l:List UInt8}{W:u}(h:mu B v l W)(hb:b<B):mu B v l (W.setCell ⟨b,o,G⟩ x):=by
 obtain⟨k,a,h1,h2,h3,h4,cs,c⟩:=h;exact⟨k,a,h1,h2,h3,h4.far (by omega) x,cs,(f8 (by omega)).trans c⟩
theorem mu.mono{B b:Nat}{v:π}{l:List UInt8}{W:u}(h:mu B v l W)(hB:b<=B):mu b v l W:=by
 obtain⟨k,a,h1,h2,h3,h4⟩:=h;exact⟨k,a,h1,h2,ax hB h3,h4⟩
theorem mu.rw{B:Nat}{v:π}{l:List UInt8}{W:u}(h:mu B v l W):∃ k,Rw W v k l/\B<=k/\v.ownBlock=A k:=by
 obtain⟨k,a,h1,h2,h3,h4,_⟩:=h;exact⟨k,Or.inr ⟨a,h1,h2,h4⟩,h3,by rw[h1];rfl⟩
theorem zt8{W:u}{B b s n c:Nat}{e:aJ}{xs:List π}(h:W.ownsRow B e s (κ (A ⟨b,0,G⟩) n c) n xs):Bx W b xs/\n<=c/\B<=b /\ ∃ cs,W.heap[b]?=A (χ cs e (0,0)):=by
 rcases h.2 with⟨h1,_⟩|⟨g,i,k,h1,hb,d,l,p,q,m⟩
 ·cases h1
 ·simp only[iQ,aZ,Addr.mk.injEq] at h1
  obtain⟨⟨rfl,_⟩,_,rfl⟩:=h1;refine⟨⟨(aa.1 d).1,λj v f=>?_,λo=>Lib.frozen_of_heap d o⟩,l,hb,_,d⟩;have a:=(ay.1 f).1;rw[h.1] at a;rw[aX,Lib.cell_of_heap d j,<- f,<- m,gF,am a];simp
theorem zn7{ops:Array cG}{rest:List cG}{o:cG}{a:dH}{w:u}{η:Exit->dH->u->Prop}(m:o.guard=G)(s x:dk)(I:o.op=.call { callee:=.builtin .append,args:=#[s,x],argTypes:=#[26,26] })
 (B g0:Nat) (L:a.eval s=κ (A ⟨g0,0,G⟩) 0 0) (b:w.ownsRow B 5 1 (κ (A ⟨g0,0,G⟩) 0 0) 0 []) (r:π) (M:a.eval x=r) (l:List UInt8) (N:sliceAt w r l) (hb:l.length<=140737488355328) (hB:B<=w.heap.size)
 (h:∀ v' w',mu B v' l w'->Below B w w'->wpList ω ops η rest (a.put o.dst v') w'):wpList ω ops η (o::rest) a w:=by
 obtain⟨i0,n,t,v,y⟩:=info_parts Aq;by_cases e:l=[]
 ·subst e
  have z:∃ i c,r=κ i 0 c:=by
   rcases N with⟨i,c,h1,_⟩|⟨g,o',c,h1,_⟩
   ·exact⟨i,c,h1⟩
   ·exact⟨_,c,h1⟩
  obtain⟨i,c,rfl⟩:=z;refine gj m λK T=>?_
  have p:=zlK B i0 n o.type _ 0 [] b i c;unfold Oper.wp;simp[execOp,I,resolve,invoke,builtin,L,M,p,aE];obtain⟨b1,b2,b3,b4⟩:=zt8 b;exact T _ _ (h _ w ⟨g0,0,D,ψ _,b3,b1,b4⟩ (bq _ _))
 ·rcases N with⟨i,c,_,h2⟩|⟨g,o',c,h1,h2,h3,h4⟩
  ·exact absurd h2 e
  ·have q:0<l.length:=by cases l with|nil=>exact absurd D e|cons _ _=>simp
   refine wpList_append_lies _ m s x _ I B 5 i0 _ 1 1 underlying26 n t v y D (by omega) _ 0 [] L b ⟨g,o',G⟩ l.length c (gJ l) (M.trans h1) (by rw[znS];omega) (λj θ P=>?_) (λθ R=>?_) q (by unfold maxLen;omega) (by omega) hB w.heap.size D ?_
   ·simp only[gJ,bn,gn] at P
    obtain⟨cc,E,F⟩:=P;rw[<- F,show (⟨g,o',G⟩:Addr).add j=⟨g,o'+j,G⟩ by unfold Addr.add;split <;> simp_all];exact h4 j cc E
   ·simp only[gJ,gc] at R
    obtain⟨cc,_,rfl⟩:=R;rfl
   ·intro g' H w' d f _ _
    rw[aX,iH] at d;obtain⟨b1,b2,b3,b4⟩:=zt8 d;exact h _ w' ⟨g',H,by rw[aX],b2,b3,b1,b4⟩ ((bq B w).grown f hB (λk U=>(b.lt k U).1))
theorem Gm.own1(v:π)(l:List UInt8)(w:u)(c:sliceAt w v l)(d:l.length<=140737488355328):Δ ω 30 #[v] w λe w'=>∃ v',e=μ v'/\mu w.heap.size v' l w'/\Below w.heap.size w w':=by
 have f:=hid c;clear c;go_enter func30,ntmps30;go_wp2_with (refine zn7 D _ _ D w.heap.size w.heap.size D (World.ownsRow_made w #[] 0 (ψ _) (by unfold maxLen;omega) D) v D l (f.out.kept (stA (aR w) _)) d (by simp) ?_;intro v' w2 a b;have g:=hid a;have h:=hid ((stA (aR w) _).trans b);clear a b)
 exact Ξ (v:=v') (by simp[results,results30,go_sem]) D ⟨v',D,g.out,h.out⟩
structure OM (w : u) (M : Mach) (S : Sl) (ι : u) : Prop where
 low:Below w.heap.size w ι
 m:Bx ι w.heap.size (υ M S)
 r:Bx ι (w.heap.size+1) (υ aD aP)
 sl:cf ι S M
theorem OM.kept{w ι Y':u}{M:Mach}{S:Sl}(h:OM w M S ι)(hb:Below ι.heap.size ι Y'):OM w M S Y':=⟨bw h.low hb,h.m.kept hb,h.r.kept hb,h.sl.kept hb⟩
theorem OM.ss{w ι:u}{M:Mach}{S:Sl}(h:OM w M S ι):∀ j,j<5->ι.cell? ⟨w.heap.size,30+j,G⟩=A (S.get j):=λj a=>by
 rcases five a with rfl|rfl|rfl|rfl|rfl
 ·exact h.m.at 30 _ D
 ·exact h.m.at 31 _ D
 ·exact h.m.at 32 _ D
 ·exact h.m.at 33 _ D
 ·exact h.m.at 34 _ D
theorem mu.offs{B b:Nat}{v:π}{l:List UInt8}{W:u}(h:mu B v l W)(hb:b<B)(vs:List π)(o:Nat):mu B v l (W.setCells b o vs):=by
 obtain⟨k,a,h1,h2,h3,h4,cs,c⟩:=h;exact⟨k,a,h1,h2,h3,h4.fars (by omega) o vs,cs,(ji (by omega) vs o W).trans c⟩
theorem zt9(M:Mach)(S:Sl)(a x1 x2 x3 b:π):kr (υ M S) 30 [a,x1,x2,x3,b]=υ M ⟨a,x1,x2,x3,b⟩:=rfl
theorem zzk{ι:u}{b:Nat}{M:Mach}{S:Sl}(h:Bx ι b (υ aD aP)):Bx (ι.setCells b 0 (υ M S)) b (υ M S):=by
 have a:=h.puts 0 (υ M S) (by rw[dG,dG];omega);rw[mK _ _ (by rw[dG,dG])] at a;exact a
theorem cf.isSl2{W:u}{S:Sl}{M:Mach}(h:cf W S M):S.isSl:=λj b=>by
 obtain⟨a,c,e⟩:=h.lens j b;exact⟨_,_,_,e⟩
structure OwnS (B : Nat) (S : Sl) (M : Mach) (W : u) : Prop where
 own:∀ j,j<5->mu B (S.get j) (M.byt j) W
 dist:∀ i j k,i<5->j<5->i≠j->(S.get i).ownBlock=A k->(S.get j).ownBlock≠A k
theorem OwnS.slAt{B:Nat}{S:Sl}{M:Mach}{W:u}(h:OwnS B S M W):cf W S M:=λj a=>by
 obtain⟨k,b,_,_⟩:=(h.own j a).rw;exact b.slice
theorem OwnS.offs{B b:Nat}{S:Sl}{M:Mach}{W:u}(h:OwnS B S M W)(hb:b<B)(vs:List π)(o:Nat):OwnS B S M (W.setCells b o vs):=⟨λj a=>(h.own j a).offs hb vs o,h.dist⟩
theorem OwnS.mk5{B f0 f1 f2 f3 f4 f5:Nat}{a x1 x2 x3 b:π}{M:Mach}{W:u}(f:mu B a (M.byt 0) W)(h1:mu B x1 (M.byt 1) W)(h2:mu B x2 (M.byt 2) W)(h3:mu B x3 (M.byt 3) W)(h4:mu B b (M.byt 4) W)
 (l0:∀ k,a.ownBlock=A k->f0<=k/\k<f1) (l1:∀ k,x1.ownBlock=A k->f1<=k/\k<f2) (l2:∀ k,x2.ownBlock=A k->f2<=k/\k<f3) (l3:∀ k,x3.ownBlock=A k->f3<=k/\k<f4) (e:∀ k,b.ownBlock=A k->f4<=k/\k<f5) (g:f0<=f1/\f1<=f2/\f2<=f3/\f3<=f4/\f4<=f5):OwnS B ⟨a,x1,x2,x3,b⟩ M W:=by
 refine⟨λj c=>?_,λi j k hi c d e1 e2=>?_⟩
 ·rcases five c with rfl|rfl|rfl|rfl|rfl
  ·exact f
  ·exact h1
  ·exact h2
  ·exact h3
  ·exact h4
 ·rcases five hi with rfl|rfl|rfl|rfl|rfl <;> rcases five c with rfl|rfl|rfl|rfl|rfl
  all_goals first
   | exact d D
   | skip
  all_goals
   first
    | (have a1:=l0 k e1)|(have a1:=l1 k e1)|(have a1:=l2 k e1)|(have a1:=l3 k e1)|(have a1:=e k e1)
   first
    | (have a2:=l0 k e2)|(have a2:=l1 k e2)|(have a2:=l2 k e2)|(have a2:=l3 k e2)|(have a2:=e k e2)
   omega
theorem wB(M:Mach)(S:Sl)(w:u)(hs:cf w S M)(hl:∀ j,j<5->(M.byt j).length<=140737488355328):Δ ω 8 #[ac (υ M S).toArray] w λe w'=>∃ S',e=μ (ac (υ M S').toArray)/\OwnS (w.heap.size+2) S' M w'/\Below w.heap.size w w':=by
 have HO0:=hid (OM.mk (stA (stA (aR w) (χ (υ M S).toArray 41)) (χ (υ aD aP).toArray 41)) ((Bx.new w (υ M S) 41 (b:=w.heap.size) D).over _) (Bx.new (w.alloc (χ (υ M S).toArray 41)) (υ aD aP) 41 (b:=w.heap.size+1) (by simp)) (hs.kept (stA (stA (aR w) _) _)));have HZ:Hid (w.heap.size+2<=((w.alloc (χ (υ M S).toArray 41)).alloc (χ (υ aD aP).toArray 41)).heap.size):=hid (by simp);have p:=hid hl;clear hs hl;go_enter func8,ntmps8;go_upto_region 2 with fail
 refine Pl.cutW (λι=>OM w M S ι/\w.heap.size+2<=ι.heap.size) ⟨HO0.out,HZ.out⟩ ?_;rintro ι ⟨hY,hYz⟩;have HY:=hid hY;have HYZ:=hid hYz;have k:∀ j,j<5->ι.drew.cell? ⟨w.heap.size,30+j,G⟩=A (S.get j):=(hY.kept (aR ι).drew).ss;clear hY hYz HO0 HZ;refine qp (S:=λw'=>∀ j,j<5->w'.cell? ⟨w.heap.size,30+j,G⟩=A (S.get j)) (st:=21) (by kernel_rfl) ?_;refine b8 0 (λ_=>k) ?_;refine b8 1 (λ_=>k) ?_;refine b8 4 (λ_=>k) ?_;refine b8 5 (λ_=>k) ?_;refine b8 8 (λ_=>k) ?_;refine b8 9 (λ_=>k) ?_;refine b8 12 (λ_=>k) ?_;refine b8 13 (λ_=>k) ?_;refine b8 16 (λ_=>k) ?_;refine b8 17 (λ_=>k) ?_;refine kU [] 2 (λ_ d=>d 0 (by omega)) k ?_;refine kU [] 6 (λ_ d=>d 1 (by omega)) k ?_;refine kU [] 10 (λ_ d=>d 2 (by omega)) k ?_;refine kU [] 14 (λ_ d=>d 3 (by omega)) k ?_;refine kU [] 18 (λ_ d=>d 4 (by omega)) k ?_;refine jy 3 (λK a=>?_);go_simp;go_at_call 30
 refine(Gm.own1 (S.get 0) (M.byt 0) _ ((HY.out.kept (aR ι).drew).sl 0 (by omega)) (p.out 0 (by omega))).mono ?_;rintro e W1 ⟨g,rfl,hx0,E⟩;have F:=hid hx0;have y:=hid ((HY.out.kept (aR ι).drew).kept E);have HB0:=hid E;clear hx0 E;try go_wp2_with fail
 refine jV a (λ_=>y.out.ss) ?_;clear a K;refine b8 20 (λ_=>y.out.ss) ?_;refine jy 7 (λK a=>?_);go_simp;go_at_call 30
 refine(Gm.own1 (S.get 1) (M.byt 1) _ ((y.out).sl 1 (by omega)) (p.out 1 (by omega))).mono ?_;rintro e W2 ⟨x1,rfl,hx1,H⟩;have q:=hid hx1;have I:=hid ((y.out).kept H);have HB1:=hid H;clear hx1 H;try go_wp2_with fail
 refine jV a (λ_=>I.out.ss) ?_;clear a K;refine jy 11 (λK a=>?_);go_simp;go_at_call 30
 refine(Gm.own1 (S.get 2) (M.byt 2) _ ((I.out).sl 2 (by omega)) (p.out 2 (by omega))).mono ?_;rintro e W3 ⟨x2,rfl,hx2,L⟩;have s:=hid hx2;have N:=hid ((I.out).kept L);have P:=hid L;clear hx2 L;try go_wp2_with fail
 refine jV a (λ_=>N.out.ss) ?_;clear a K;refine jy 15 (λK a=>?_);go_simp;go_at_call 30
 refine(Gm.own1 (S.get 3) (M.byt 3) _ ((N.out).sl 3 (by omega)) (p.out 3 (by omega))).mono ?_;rintro e W4 ⟨x3,rfl,hx3,R⟩;have t:=hid hx3;have T:=hid ((N.out).kept R);have B:=hid R;clear hx3 R;try go_wp2_with fail
 refine jV a (λ_=>T.out.ss) ?_;clear a K;refine jy 19 (λK a=>?_);go_simp;go_at_call 30
 refine(Gm.own1 (S.get 4) (M.byt 4) _ ((T.out).sl 4 (by omega)) (p.out 4 (by omega))).mono ?_;rintro e W5 ⟨i,rfl,hx4,U⟩;have W:=hid hx4;have l:=hid ((T.out).kept U);have x:=hid U;clear hx4 U;try go_wp2_with fail
 refine jV a (λ_=>l.out.ss) ?_;clear a K;have n:=l.out.ss;have hcs:∀ j,j<5->(W5.cell? ⟨w.heap.size,30+j,G⟩).isSome=Γ:=λj hj=>by rw[n j hj];rfl
 have hff:=l.out.m.f;have hzz:=l.out.m.z;have hc0:=n 0 (by omega);have hc1:=n 1 (by omega);have hc2:=n 2 (by omega);have hc3:=n 3 (by omega);have hc4:=n 4 (by omega);obtain⟨k0,p0,Z,_⟩:=F.out;obtain⟨k1,p1,ev1,_⟩:=q.out;obtain⟨k2,p2,ev2,_⟩:=s.out;obtain⟨k3,p3,ev3,_⟩:=t.out;obtain⟨k4,p4,ev4,_⟩:=W.out;have EV0:=hid Z;have EV1:=hid ev1;have EV2:=hid ev2;have EV3:=hid ev3;have EV4:=hid ev4;have o0:g.oneCell'=Γ:=by rw[Z];rfl
 have o1:x1.oneCell'=Γ:=by rw[ev1];rfl
 have o2:x2.oneCell'=Γ:=by rw[ev2];rfl
 have o3:x3.oneCell'=Γ:=by rw[ev3];rfl
 have o4:i.oneCell'=Γ:=by rw[ev4];rfl
 clear hcs n Z ev1 ev2 ev3 ev4;refine jy 21 (λK a=>?_);rw[EV0.out];go_simp;refine jV a (λh=>by simp at h) ?_;clear a K;refine b8 22 (λh=>by simp at h) ?_;refine jy 23 (λK a=>?_);rw[EV1.out];go_simp;refine jV a (λh=>by simp at h) ?_;clear a K;refine b8 24 (λh=>by simp at h) ?_;refine jy 25 (λK a=>?_);rw[EV2.out];go_simp;refine jV a (λh=>by simp at h) ?_;clear a K;refine b8 26 (λh=>by simp at h) ?_;refine jy 27 (λK a=>?_);rw[EV3.out];go_simp;refine jV a (λh=>by simp at h) ?_;clear a K;refine b8 28 (λh=>by simp at h) ?_;refine jy 29 (λK a=>?_);rw[EV4.out];go_simp;refine jV a (λh=>by simp at h) ?_;clear a K;refine pq (by kernel_rfl) ?_ _;rw[<- EV0.out,<- EV1.out,<- EV2.out,<- EV3.out,<- EV4.out];refine Pl.cutE (λV=>Below w.heap.size w V/\Bx V w.heap.size (υ M ⟨g,x1,x2,x3,i⟩)/\Bx V (w.heap.size+1) (υ aD aP)/\OwnS (w.heap.size+2) ⟨g,x1,x2,x3,i⟩ M V) ⟨Bl.puts (o:=30) l.out.low (ψ _) [g,x1,x2,x3,i],zt9 M S g x1 x2 x3 i ▸ l.out.m.puts 30 [g,x1,x2,x3,i] (by rw[dG];simp),l.out.r.fars (by omega) 30 [g,x1,x2,x3,i],?_⟩ ?_
 ·have z0:=HYZ.out
  have z1:=HB0.out.size;have z2:=HB1.out.size;have z3:=P.out.size;have z4:=B.out.size;have z5:=x.out.size;have hy:ι.drew.heap.size=ι.heap.size:=D;exact OwnS.mk5 (f0:=ι.heap.size) (f1:=W1.heap.size) (f2:=W2.heap.size) (f3:=W3.heap.size) (f4:=W4.heap.size) (f5:=W5.heap.size)
   (((((F.out.kept HB1.out).kept P.out).kept B.out).kept x.out).offs (by omega) [g,x1,x2,x3,i] 30 |>.mono z0) ((((q.out.kept P.out).kept B.out).kept x.out).offs (by omega) [g,x1,x2,x3,i] 30 |>.mono (by omega)) (((s.out.kept B.out).kept x.out).offs (by omega) [g,x1,x2,x3,i] 30 |>.mono (by omega)) ((t.out.kept x.out).offs (by omega) [g,x1,x2,x3,i] 30 |>.mono (by omega)) (W.out.offs (by omega) [g,x1,x2,x3,i] 30 |>.mono (by omega))
   F.out.lt q.out.lt s.out.lt t.out.lt W.out.lt (by omega)
 rintro V ⟨hV1,hV2,hV3,hV4⟩;have HV1:=hid hV1;have HV2:=hid hV2;have HV3:=hid hV3;have HV4:=hid hV4;clear hV1 hV2 hV3 hV4;go_wp2_with (first
  | (refine wpList_load_mid D 41 _ D w.heap.size 0 D (υ M ⟨g,x1,x2,x3,i⟩) _ HV2.out.c underlying41 D cn ?_)
  | (refine wpList_store_mid D 41 _ _ D (w.heap.size+1) 0 (υ M ⟨g,x1,x2,x3,i⟩).toArray D D (HV3.out.there 0 75 (by rw[dG];omega)) cn (iq _ _ HV4.out.slAt.isSl2) ?_
     refine Pl.cutL (λX=>Below w.heap.size w X/\Bx X (w.heap.size+1) (υ M ⟨g,x1,x2,x3,i⟩)/\OwnS (w.heap.size+2) ⟨g,x1,x2,x3,i⟩ M X) ⟨Bl.puts HV1.out (by omega) _,zzk HV3.out,HV4.out.offs (by omega) _ _⟩ ?_;rintro X ⟨hX1,hX2,hX3⟩;have q:=hid hX1;have s:=hid hX2;have t:=hid hX3;clear hX1 hX2 hX3))
 exact Ξ (v:=ac (υ M ⟨g,x1,x2,x3,i⟩).toArray) (by simp only[results,results8];simp;exact Pl.res (vQ _ _ s.out.c)) D ⟨_,D,t.out,q.out⟩
end Go.Proofs.YthghjlinhokimaaGreatDoor
