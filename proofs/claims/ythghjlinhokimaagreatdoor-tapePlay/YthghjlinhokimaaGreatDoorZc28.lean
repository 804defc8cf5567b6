/-
  Parts of a proof, joined.
-/
import Derived.Test.YthghjlinhokimaaGreatDoorZcA
import Derived.Test.YthghjlinhokimaaGreatDoorZc21
import Derived.Test.YthghjlinhokimaaGreatDoorZc22
set_option linter.all false
set_option maxRecDepth 100000
set_option maxHeartbeats 3200000
namespace Go.Proofs.YthghjlinhokimaaGreatDoor
open Go.ChangeShapes Go.WideShapes Go.ChangeAt Go.RowKit Go.Proofs.Tryz
def b9(l1 l2:List UInt8):Mach:={ aE with mrom:=l1,arom:=l2,ram:=List.replicate 128 0,own:=List.replicate 64 0,video:=List.replicate 256 0,held:=true }
theorem ziA:C.Cpu.zero.ok:=⟨U,λx a=>by simp[C.Cpu.zero] at a;omega,by decide,by decide⟩
theorem z8:0<=(0:Int)/\(0:Int)<=255:=by decide
theorem mK:0<=(0:Int)/\(0:Int)<=65535:=by decide
theorem zok:aE.ok:=⟨ziA,ziA,⟨z8,z8⟩,⟨z8,z8⟩,mK,mK,⟨⟨mK,mK,z8,mK⟩,⟨mK,mK,z8,mK⟩,⟨mK,mK,z8,mK⟩⟩,mK,mK,z8,z8⟩
theorem ziB(l1 l2:List UInt8)(h1:l1.length<=1024)(h2:l2.length<=1024):(b9 l1 l2).fit :=
 ⟨⟨ziA,ziA,⟨z8,z8⟩,⟨z8,z8⟩,mK,mK,zok.s,mK,mK,z8,z8⟩,h1,h2,by simp[b9],by simp[b9],by simp[b9],(by decide:0<=(0:Int)/\(0:Int)<=15),⟨(by decide:0<=(0:Int)),(by decide:(0:Int)<=9),(by decide:0<=(0:Int)),(by decide:(0:Int)<=63),(by decide:0<=(0:Int)),(by decide:(0:Int)<=20001)⟩,(by decide:0<=(0:Int)/\(0:Int)<=200000),(by decide:0<=(0:Int)/\(0:Int)<=0+20000),(by decide:0<=(0:Int)/\(0:Int)<=0+20000)⟩
theorem mD(a1 a2:Option Addr)(a c1 b c2 b1 b2 b3:Nat)(l1 l2:List UInt8)(w:World):(Instr.build 41 #[(2,.slice a1 a c1),(3,.slice a2 b c2),(4,.slice (some ⟨b1,0,none⟩) 128 128),(5,.slice (some ⟨b2,0,none⟩) 64 64),(6,.slice (some ⟨b3,0,none⟩) 256 256),(14,.bool true)]).run prog w =
 .ok (.agg (D (b9 l1 l2) ⟨.slice a1 a c1,.slice a2 b c2,.slice (some ⟨b1,0,none⟩) 128 128,.slice (some ⟨b2,0,none⟩) 64 64,.slice (some ⟨b3,0,none⟩) 256 256⟩).toArray) w:=by kernel_rfl
theorem mF{P:Program}{a:Act}{o:Oper}{w:World}(t:TypeId)(i0 c i2 i3 i4 i5:Nat)(d x1 x2 x3 e f:Operand)(h:o.op=.build t #[(i0,d),(c,x1),(i2,x2),(i3,x3),(i4,e),(i5,f)])(v0 g v2 v3 v4 v5 v:Value)(i:a.eval d=v0)(h1:a.eval x1=g)(h2:a.eval x2=v2)(h3:a.eval x3=v3)(h4:a.eval e=v4)(j:a.eval f=v5)
 (b:(Instr.build t #[(i0,v0),(c,g),(i2,v2),(i3,v3),(i4,v4),(i5,v5)]).run P w=.ok v w):(execOp a.eval o).run P w=.ok (.value v) w :=
 zde t _ h v (by simp only[dj,bP,cB,i,h1,h2,h3,h4,j];exact b)
theorem ziC{W:World}{n b:Nat}(h:Bx W b (List.replicate n (.int .u8 0)))(e:0<n):sliceAt W (.slice (some ⟨b,0,none⟩) n n) (List.replicate n 0):=by
 refine Or.inr ⟨b,0,n,by simp,by simp,h.z,λj c a=>?_⟩;rw[aN];refine h.at j _ ?_;have d:=(aA.1 a).1;simp only[eU] at d;rw[mc,Q d] at a ⊢;cases a;rfl
structure NB (w : World) (F : Fx) (M : Mach) (tk : Tk) (L : List Value) (Y : World) : Prop where
 bd:Bd F Y M tk
 low:Below w.heap.size w Y
 res:Bx Y w.heap.size L
 B:w.heap.size<F.B
 r:F.B<=F.mr/\F.B<=F.ar
theorem NB.go{w Y Y':World}{F:Fx}{M M':Mach}{tk tk':Tk}{L:List Value}(h:NB w F M tk L Y)(hB:Bd F Y' M' tk')(a:Bt F Y Y'):NB w F M' tk' L Y':=by
 have hb:=h.B;exact⟨hB,h.low.trans ((Mv.below a).mono (by omega)),h.res.under (Mv.below a) hb,hb,h.r⟩
theorem NB.kept{w Y Y':World}{F:Fx}{M:Mach}{tk:Tk}{L:List Value}(h:NB w F M tk L Y)(hb:Below Y.heap.size Y Y'):NB w F M tk L Y':=h.go (h.bd.kept hb) (Mv.of_below h.bd.big hb)
theorem NB.fin{w Y:World}{F:Fx}{M:Mach}{tk:Tk}{L a:List Value}(h:NB w F M tk L Y)(c:a.length=L.length):Below w.heap.size w (Y.setCells w.heap.size 0 a)/\Bx (Y.setCells w.heap.size 0 a) w.heap.size a/\bM (Y.setCells w.heap.size 0 a) F.S M:=by
 have b:=h.res.puts 0 a (by omega);rw[jJ _ _ c] at b;have lo:=h.bd.nd.lo;have hB:=h.B;have e:=h.r;refine⟨Bl.puts h.low (by omega) _,b,λj d=>?_⟩;rcases five d with rfl|rfl|rfl|rfl|rfl
 ·exact(h.bd.mr.offB (by omega) _ _).slice
 ·exact(h.bd.ar.offB (by omega) _ _).slice
 ·exact(h.bd.ra.offB (by omega) _ _).slice
 ·exact(h.bd.ow.offB (by omega) _ _).slice
 ·exact(h.bd.vi.offB (by omega) _ _).slice
structure NF (w : World) (l1 l2 : List UInt8) (S : Sl) (Y : World) : Prop where
 low:Below w.heap.size w Y
 res:Bx Y w.heap.size (D aE aM)
 sl:bM Y S (b9 l1 l2)
theorem NF.of{w Y:World}{l1 l2:List UInt8}{a1 a2:Option Addr}{c1 c2 b1 b2 b3:Nat}(b:sliceAt w (.slice a1 l1.length c1) l1)(c:sliceAt w (.slice a2 l2.length c2) l2)(a:Below w.heap.size w Y)(d:Bx Y w.heap.size (D aE aM))
 (x1:Bx Y b1 (List.replicate 128 (.int .u8 0))) (x2:Bx Y b2 (List.replicate 64 (.int .u8 0))) (x3:Bx Y b3 (List.replicate 256 (.int .u8 0))):NF w l1 l2 ⟨.slice a1 l1.length c1,.slice a2 l2.length c2,.slice (some ⟨b1,0,none⟩) 128 128,.slice (some ⟨b2,0,none⟩) 64 64,.slice (some ⟨b3,0,none⟩) 256 256⟩ Y :=
 ⟨a,d,λj e=>by
   rcases five e with rfl|rfl|rfl|rfl|rfl
   ·exact b.kept a
   ·exact c.kept a
   ·exact ziC x1 (by omega)
   ·exact ziC x2 (by omega)
   ·exact ziC x3 (by omega)⟩
theorem rX(w:World):(Instr.makeSlice 26 (.int .i64 128) (.int .i64 128)).run prog w=.ok (.slice (some ⟨w.heap.size,0,none⟩) 128 128) (w.alloc (.cells (List.replicate 128 (.int .u8 0)).toArray 5)):=by kernel_rfl
theorem iw(w:World)(k:Nat)(h:w.heap.size=k):(Instr.makeSlice 26 (.int .i64 128) (.int .i64 128)).run prog w=.ok (.slice (some ⟨k,0,none⟩) 128 128) (w.alloc (.cells (List.replicate 128 (.int .u8 0)).toArray 5)):=by subst h;exact rX w
theorem xl(w:World):(Instr.makeSlice 26 (.int .i64 64) (.int .i64 64)).run prog w=.ok (.slice (some ⟨w.heap.size,0,none⟩) 64 64) (w.alloc (.cells (List.replicate 64 (.int .u8 0)).toArray 5)):=by kernel_rfl
theorem kj(w:World)(k:Nat)(h:w.heap.size=k):(Instr.makeSlice 26 (.int .i64 64) (.int .i64 64)).run prog w=.ok (.slice (some ⟨k,0,none⟩) 64 64) (w.alloc (.cells (List.replicate 64 (.int .u8 0)).toArray 5)):=by subst h;exact xl w
theorem mkV0(w:World):(Instr.makeSlice 26 (.int .i64 256) (.int .i64 256)).run prog w=.ok (.slice (some ⟨w.heap.size,0,none⟩) 256 256) (w.alloc (.cells (List.replicate 256 (.int .u8 0)).toArray 5)):=by kernel_rfl
theorem nc(w:World)(k:Nat)(h:w.heap.size=k):(Instr.makeSlice 26 (.int .i64 256) (.int .i64 256)).run prog w=.ok (.slice (some ⟨k,0,none⟩) 256 256) (w.alloc (.cells (List.replicate 256 (.int .u8 0)).toArray 5)):=by subst h;exact mkV0 w
theorem zry{P:Program}{ops:Array Oper}{op:Oper}{a:Act}{w w':World}{K:Act->World->Prop}{aj:Exit->Act->World->Prop}{E:Prop}(d:op.guard=none)(t:TypeId)(l c:Operand)(g:op.op=.makeSlice t l c)(e f v:Value)(i:a.eval l=e)(hc:a.eval c=f)
 (b:(Instr.makeSlice t e f).run P w=.ok v w') (h:K (a.put op.dst v) w'):if Region.wanted op (yielded ops a.tmps)=true then Oper.wp P op a w K aj else E:=by
 rw[Q (by simp[Region.wanted,d])];unfold Oper.wp execOp;simp only[g,i,hc,fj,b,dx,fk];exact h
theorem iG{P:Program}{md:Region.Mode}{ops:Array Oper}{aj:Exit->Act->World->Prop}{S:World->Prop}{fuel:Nat}{b:Array Bool}{a:Act}{w w':World}{i:Nat}{rs:List Nat}{op:Oper}(hi:ops[i]?=some op)(e:op.guard=none)(t:TypeId)(l c:Operand)(j:op.op=.makeSlice t l c)(f g v:Value)(k:a.eval l=f)(hc:a.eval c=g)
 (d:(Instr.makeSlice t f g).run P w=.ok v w') (m:S w') (h:wpAnyH P md ops aj S fuel (b.setIfInBounds i true) (a.put op.dst v) w') (n:AllReadyH P md ops aj S fuel b a w rs):AllReadyH P md ops aj S fuel b a w (i::rs) :=
 AllReadyH.cons hi (λK o=>zry e t l c j f g v k hc d (o.out _ _ m (λ_=>h))) n
theorem ij{P:Program}{md:Region.Mode}{ops:Array Oper}{aj:Exit->Act->World->Prop}{S:World->Prop}{fuel:Nat}{b:Array Bool}{a:Act}{w:World}(K:World->Prop)(h:K w)(k:∀ w',K w'->wpAnyH P md ops aj S fuel b a w'):wpAnyH P md ops aj S fuel b a w:=k w h
def cq(l1 l2:List UInt8):Mach:={ b9 l1 l2 with main:=dO ((b9 l1 l2).lookM 0) ((b9 l1 l2).lookM 1) }
theorem zwq{w Y:World}{F:Fx}{l1 l2:List UInt8}{L:List Value}(h:NB w F (b9 l1 l2) Tk.zero L Y):NB w F (cq l1 l2) Tk.zero L (Y.setCells F.g 0 (gD ((b9 l1 l2).lookM 0*256+(b9 l1 l2).lookM 1))):=by
 have a:=tK _ _ (nC (b9 l1 l2) 0) (nC (b9 l1 l2) 1);have b:(cq l1 l2).fit:=Mach.fit.of h.bd.fit { h.bd.fit with main:=a } ⟨U,U,U,U,U⟩ U ⟨U,U,U⟩ ⟨U,U⟩ (Or.inl U);rw[zlN];exact h.go (h.bd.puts (M':=cq l1 l2) (tk':=Tk.zero) 0 (bG (dO ((b9 l1 l2).lookM 0) ((b9 l1 l2).lookM 1))) (by simp[bG]) (F.putMain _ _ _) ⟨U,U,U,U,U⟩ b) (Bt.sets h.bd.nd _ 0 _ (Bt.refl _ _))
theorem tW(l1 l2:List UInt8)(M v2:Value)(w:World)(h1:sliceAt w M l1)(h2:sliceAt w v2 l2)(y:l1.length<=1024)(E:l2.length<=1024):Calls prog 37 #[M,v2] w λe w'=>∃ S',e=.returned (.tuple #[.agg (D (cq l1 l2) S').toArray,.int .i64 0])/\bM w' S' (cq l1 l2)/\(cq l1 l2).fit/\dY (w.heap.size+1) S'/\Below w.heap.size w w':=by
 obtain⟨a1,c1,e1⟩:=oJ h1;obtain⟨a2,c2,e2⟩:=oJ h2;subst e1 e2;have i:=hid h1;have j:=hid h2;have k:=hid (Bx.new w (D aE aM) 41 (b:=w.heap.size) U);clear h1 h2;go_enter func37,ntmps37;go_wp2;refine wp_region_held_drew (S:=λ_=>True) (by kernel_rfl) trivial ?_;intro _;refine A 0 trivial ?_;refine A 1 trivial ?_;refine wpAnyH_ready (rs:=[2,3,4]) (by kernel_rfl) (by simp) ?_;refine iG (op:=⟨some 11,_,_,_,_,none⟩) U U 26 _ _ U (.int .i64 128) (.int .i64 128) _ U U (iw _ (w.heap.size+1) (by simp)) trivial ?_ (iG (op:=⟨some 12,_,_,_,_,none⟩) U U 26 _ _ U (.int .i64 64) (.int .i64 64) _ U U (kj _ (w.heap.size+1) (by simp)) trivial ?_ (iG (op:=⟨some 13,_,_,_,_,none⟩) U U 26 _ _ U (.int .i64 256) (.int .i64 256) _ U U (nc _ (w.heap.size+1) (by simp)) trivial ?_ AllReadyH.nil));all_goals simp only[Act.put,xA,xB,xC]
 refine wpAnyH_ready (rs:=[3,4]) (by kernel_rfl) (by simp) ?_;refine iG (op:=⟨some 12,_,_,_,_,none⟩) U U 26 _ _ U (.int .i64 64) (.int .i64 64) _ U U (kj _ (w.heap.size+1+1) (by simp)) trivial ?_ (iG (op:=⟨some 13,_,_,_,_,none⟩) U U 26 _ _ U (.int .i64 256) (.int .i64 256) _ U U (nc _ (w.heap.size+1+1) (by simp)) trivial ?_ AllReadyH.nil);rotate_left 2;refine wpAnyH_ready (rs:=[2,4]) (by kernel_rfl) (by simp) ?_;refine iG (op:=⟨some 11,_,_,_,_,none⟩) U U 26 _ _ U (.int .i64 128) (.int .i64 128) _ U U (iw _ (w.heap.size+1+1) (by simp)) trivial ?_ (iG (op:=⟨some 13,_,_,_,_,none⟩) U U 26 _ _ U (.int .i64 256) (.int .i64 256) _ U U (nc _ (w.heap.size+1+1) (by simp)) trivial ?_ AllReadyH.nil);rotate_left 2;refine wpAnyH_ready (rs:=[2,3]) (by kernel_rfl) (by simp) ?_;refine iG (op:=⟨some 11,_,_,_,_,none⟩) U U 26 _ _ U (.int .i64 128) (.int .i64 128) _ U U (iw _ (w.heap.size+1+1) (by simp)) trivial ?_ (iG (op:=⟨some 12,_,_,_,_,none⟩) U U 26 _ _ U (.int .i64 64) (.int .i64 64) _ U U (kj _ (w.heap.size+1+1) (by simp)) trivial ?_ AllReadyH.nil)
 rotate_left 2;all_goals simp only[Act.put,xA,xB,xC]
 refine wpAnyH_ready (rs:=[4]) (by kernel_rfl) (by simp) ?_;refine iG (op:=⟨some 13,_,_,_,_,none⟩) U U 26 _ _ U (.int .i64 256) (.int .i64 256) _ U U (nc _ (w.heap.size+1+1+1) (by simp)) trivial ?_ AllReadyH.nil;simp only[Act.put,xA,xB,xC];refine ij (NF w l1 l2 ⟨.slice a1 l1.length c1,.slice a2 l2.length c2,.slice (some ⟨_,0,none⟩) 128 128,.slice (some ⟨_,0,none⟩) 64 64,.slice (some ⟨_,0,none⟩) 256 256⟩) (NF.of (b1:=w.heap.size+1) (b2:=w.heap.size+1+1) (b3:=w.heap.size+1+1+1) i.out j.out ?_ ?_ ?_ ?_ ?_) ?_
 ·repeat' (first|exact J _|refine cx ?_|refine stA ?_ _)
 ·repeat' (first|exact k.out|refine Bx.drew ?_|refine Bx.over ?_ _)
 ·repeat' (first|exact Bx.new _ (List.replicate 128 (.int .u8 0)) _ (by simp)|refine Bx.drew ?_|refine Bx.over ?_ _)
 ·repeat' (first|exact Bx.new _ (List.replicate 64 (.int .u8 0)) _ (by simp)|refine Bx.drew ?_|refine Bx.over ?_ _)
 ·repeat' (first|exact Bx.new _ (List.replicate 256 (.int .u8 0)) _ (by simp)|refine Bx.drew ?_|refine Bx.over ?_ _)
 intro Y a;have d:=hid a;clear a;refine iq 5 (.agg (D (b9 l1 l2) ⟨.slice a1 l1.length c1,.slice a2 l2.length c2,.slice (some ⟨w.heap.size+1,0,none⟩) 128 128,.slice (some ⟨w.heap.size+1+1,0,none⟩) 64 64,.slice (some ⟨w.heap.size+1+1+1,0,none⟩) 256 256⟩).toArray) U (λw' _=>mF 41 2 3 4 5 6 14 _ _ _ _ _ _ U _ _ _ _ _ _ _ U U U U U U (mD a1 a2 l1.length c1 l2.length c2 (w.heap.size+1) (w.heap.size+1+1) (w.heap.size+1+1+1) l1 l2 w')) trivial ?_;rotate_left 1;refine wpAnyH_ready (rs:=[3]) (by kernel_rfl) (by simp) ?_;refine iG (op:=⟨some 12,_,_,_,_,none⟩) U U 26 _ _ U (.int .i64 64) (.int .i64 64) _ U U (kj _ (w.heap.size+1+1+1) (by simp)) trivial ?_ AllReadyH.nil;simp only[Act.put,xA,xB,xC];refine ij (NF w l1 l2 ⟨.slice a1 l1.length c1,.slice a2 l2.length c2,.slice (some ⟨_,0,none⟩) 128 128,.slice (some ⟨_,0,none⟩) 64 64,.slice (some ⟨_,0,none⟩) 256 256⟩) (NF.of (b1:=w.heap.size+1) (b2:=w.heap.size+1+1+1) (b3:=w.heap.size+1+1) i.out j.out ?_ ?_ ?_ ?_ ?_) ?_
 ·repeat' (first|exact J _|refine cx ?_|refine stA ?_ _)
 ·repeat' (first|exact k.out|refine Bx.drew ?_|refine Bx.over ?_ _)
 ·repeat' (first|exact Bx.new _ (List.replicate 128 (.int .u8 0)) _ (by simp)|refine Bx.drew ?_|refine Bx.over ?_ _)
 ·repeat' (first|exact Bx.new _ (List.replicate 64 (.int .u8 0)) _ (by simp)|refine Bx.drew ?_|refine Bx.over ?_ _)
 ·repeat' (first|exact Bx.new _ (List.replicate 256 (.int .u8 0)) _ (by simp)|refine Bx.drew ?_|refine Bx.over ?_ _)
 intro Y a;have d:=hid a;clear a;refine iq 5 (.agg (D (b9 l1 l2) ⟨.slice a1 l1.length c1,.slice a2 l2.length c2,.slice (some ⟨w.heap.size+1,0,none⟩) 128 128,.slice (some ⟨w.heap.size+1+1+1,0,none⟩) 64 64,.slice (some ⟨w.heap.size+1+1,0,none⟩) 256 256⟩).toArray) U (λw' _=>mF 41 2 3 4 5 6 14 _ _ _ _ _ _ U _ _ _ _ _ _ _ U U U U U U (mD a1 a2 l1.length c1 l2.length c2 (w.heap.size+1) (w.heap.size+1+1+1) (w.heap.size+1+1) l1 l2 w')) trivial ?_;rotate_left 1;refine wpAnyH_ready (rs:=[4]) (by kernel_rfl) (by simp) ?_;refine iG (op:=⟨some 13,_,_,_,_,none⟩) U U 26 _ _ U (.int .i64 256) (.int .i64 256) _ U U (nc _ (w.heap.size+1+1+1) (by simp)) trivial ?_ AllReadyH.nil;simp only[Act.put,xA,xB,xC];refine ij (NF w l1 l2 ⟨.slice a1 l1.length c1,.slice a2 l2.length c2,.slice (some ⟨_,0,none⟩) 128 128,.slice (some ⟨_,0,none⟩) 64 64,.slice (some ⟨_,0,none⟩) 256 256⟩) (NF.of (b1:=w.heap.size+1+1) (b2:=w.heap.size+1) (b3:=w.heap.size+1+1+1) i.out j.out ?_ ?_ ?_ ?_ ?_) ?_
 ·repeat' (first|exact J _|refine cx ?_|refine stA ?_ _)
 ·repeat' (first|exact k.out|refine Bx.drew ?_|refine Bx.over ?_ _)
 ·repeat' (first|exact Bx.new _ (List.replicate 128 (.int .u8 0)) _ (by simp)|refine Bx.drew ?_|refine Bx.over ?_ _)
 ·repeat' (first|exact Bx.new _ (List.replicate 64 (.int .u8 0)) _ (by simp)|refine Bx.drew ?_|refine Bx.over ?_ _)
 ·repeat' (first|exact Bx.new _ (List.replicate 256 (.int .u8 0)) _ (by simp)|refine Bx.drew ?_|refine Bx.over ?_ _)
 intro Y a;have d:=hid a;clear a;refine iq 5 (.agg (D (b9 l1 l2) ⟨.slice a1 l1.length c1,.slice a2 l2.length c2,.slice (some ⟨w.heap.size+1+1,0,none⟩) 128 128,.slice (some ⟨w.heap.size+1,0,none⟩) 64 64,.slice (some ⟨w.heap.size+1+1+1,0,none⟩) 256 256⟩).toArray) U (λw' _=>mF 41 2 3 4 5 6 14 _ _ _ _ _ _ U _ _ _ _ _ _ _ U U U U U U (mD a1 a2 l1.length c1 l2.length c2 (w.heap.size+1+1) (w.heap.size+1) (w.heap.size+1+1+1) l1 l2 w')) trivial ?_;rotate_left 1;refine wpAnyH_ready (rs:=[2]) (by kernel_rfl) (by simp) ?_;refine iG (op:=⟨some 11,_,_,_,_,none⟩) U U 26 _ _ U (.int .i64 128) (.int .i64 128) _ U U (iw _ (w.heap.size+1+1+1) (by simp)) trivial ?_ AllReadyH.nil;simp only[Act.put,xA,xB,xC];refine ij (NF w l1 l2 ⟨.slice a1 l1.length c1,.slice a2 l2.length c2,.slice (some ⟨_,0,none⟩) 128 128,.slice (some ⟨_,0,none⟩) 64 64,.slice (some ⟨_,0,none⟩) 256 256⟩) (NF.of (b1:=w.heap.size+1+1+1) (b2:=w.heap.size+1) (b3:=w.heap.size+1+1) i.out j.out ?_ ?_ ?_ ?_ ?_) ?_
 ·repeat' (first|exact J _|refine cx ?_|refine stA ?_ _)
 ·repeat' (first|exact k.out|refine Bx.drew ?_|refine Bx.over ?_ _)
 ·repeat' (first|exact Bx.new _ (List.replicate 128 (.int .u8 0)) _ (by simp)|refine Bx.drew ?_|refine Bx.over ?_ _)
 ·repeat' (first|exact Bx.new _ (List.replicate 64 (.int .u8 0)) _ (by simp)|refine Bx.drew ?_|refine Bx.over ?_ _)
 ·repeat' (first|exact Bx.new _ (List.replicate 256 (.int .u8 0)) _ (by simp)|refine Bx.drew ?_|refine Bx.over ?_ _)
 intro Y a;have d:=hid a;clear a;refine iq 5 (.agg (D (b9 l1 l2) ⟨.slice a1 l1.length c1,.slice a2 l2.length c2,.slice (some ⟨w.heap.size+1+1+1,0,none⟩) 128 128,.slice (some ⟨w.heap.size+1,0,none⟩) 64 64,.slice (some ⟨w.heap.size+1+1,0,none⟩) 256 256⟩).toArray) U (λw' _=>mF 41 2 3 4 5 6 14 _ _ _ _ _ _ U _ _ _ _ _ _ _ U U U U U U (mD a1 a2 l1.length c1 l2.length c2 (w.heap.size+1+1+1) (w.heap.size+1) (w.heap.size+1+1) l1 l2 w')) trivial ?_;rotate_left 1;refine wpAnyH_ready (rs:=[3]) (by kernel_rfl) (by simp) ?_;refine iG (op:=⟨some 12,_,_,_,_,none⟩) U U 26 _ _ U (.int .i64 64) (.int .i64 64) _ U U (kj _ (w.heap.size+1+1+1) (by simp)) trivial ?_ AllReadyH.nil;simp only[Act.put,xA,xB,xC];refine ij (NF w l1 l2 ⟨.slice a1 l1.length c1,.slice a2 l2.length c2,.slice (some ⟨_,0,none⟩) 128 128,.slice (some ⟨_,0,none⟩) 64 64,.slice (some ⟨_,0,none⟩) 256 256⟩) (NF.of (b1:=w.heap.size+1+1) (b2:=w.heap.size+1+1+1) (b3:=w.heap.size+1) i.out j.out ?_ ?_ ?_ ?_ ?_) ?_
 ·repeat' (first|exact J _|refine cx ?_|refine stA ?_ _)
 ·repeat' (first|exact k.out|refine Bx.drew ?_|refine Bx.over ?_ _)
 ·repeat' (first|exact Bx.new _ (List.replicate 128 (.int .u8 0)) _ (by simp)|refine Bx.drew ?_|refine Bx.over ?_ _)
 ·repeat' (first|exact Bx.new _ (List.replicate 64 (.int .u8 0)) _ (by simp)|refine Bx.drew ?_|refine Bx.over ?_ _)
 ·repeat' (first|exact Bx.new _ (List.replicate 256 (.int .u8 0)) _ (by simp)|refine Bx.drew ?_|refine Bx.over ?_ _)
 intro Y a;have d:=hid a;clear a;refine iq 5 (.agg (D (b9 l1 l2) ⟨.slice a1 l1.length c1,.slice a2 l2.length c2,.slice (some ⟨w.heap.size+1+1,0,none⟩) 128 128,.slice (some ⟨w.heap.size+1+1+1,0,none⟩) 64 64,.slice (some ⟨w.heap.size+1,0,none⟩) 256 256⟩).toArray) U (λw' _=>mF 41 2 3 4 5 6 14 _ _ _ _ _ _ U _ _ _ _ _ _ _ U U U U U U (mD a1 a2 l1.length c1 l2.length c2 (w.heap.size+1+1) (w.heap.size+1+1+1) (w.heap.size+1) l1 l2 w')) trivial ?_;rotate_left 1;refine wpAnyH_ready (rs:=[2]) (by kernel_rfl) (by simp) ?_;refine iG (op:=⟨some 11,_,_,_,_,none⟩) U U 26 _ _ U (.int .i64 128) (.int .i64 128) _ U U (iw _ (w.heap.size+1+1+1) (by simp)) trivial ?_ AllReadyH.nil;simp only[Act.put,xA,xB,xC];refine ij (NF w l1 l2 ⟨.slice a1 l1.length c1,.slice a2 l2.length c2,.slice (some ⟨_,0,none⟩) 128 128,.slice (some ⟨_,0,none⟩) 64 64,.slice (some ⟨_,0,none⟩) 256 256⟩) (NF.of (b1:=w.heap.size+1+1+1) (b2:=w.heap.size+1+1) (b3:=w.heap.size+1) i.out j.out ?_ ?_ ?_ ?_ ?_) ?_
 ·repeat' (first|exact J _|refine cx ?_|refine stA ?_ _)
 ·repeat' (first|exact k.out|refine Bx.drew ?_|refine Bx.over ?_ _)
 ·repeat' (first|exact Bx.new _ (List.replicate 128 (.int .u8 0)) _ (by simp)|refine Bx.drew ?_|refine Bx.over ?_ _)
 ·repeat' (first|exact Bx.new _ (List.replicate 64 (.int .u8 0)) _ (by simp)|refine Bx.drew ?_|refine Bx.over ?_ _)
 ·repeat' (first|exact Bx.new _ (List.replicate 256 (.int .u8 0)) _ (by simp)|refine Bx.drew ?_|refine Bx.over ?_ _)
 intro Y a;have d:=hid a;clear a;refine iq 5 (.agg (D (b9 l1 l2) ⟨.slice a1 l1.length c1,.slice a2 l2.length c2,.slice (some ⟨w.heap.size+1+1+1,0,none⟩) 128 128,.slice (some ⟨w.heap.size+1+1,0,none⟩) 64 64,.slice (some ⟨w.heap.size+1,0,none⟩) 256 256⟩).toArray) U (λw' _=>mF 41 2 3 4 5 6 14 _ _ _ _ _ _ U _ _ _ _ _ _ _ U U U U U U (mD a1 a2 l1.length c1 l2.length c2 (w.heap.size+1+1+1) (w.heap.size+1+1) (w.heap.size+1) l1 l2 w')) trivial ?_;rotate_left 1;all_goals
  refine dQ 6 (λK N=>?_);go_simp;go_at_call 56
  refine(sI (b9 l1 l2) _ _ d.out.sl.lens d.out.sl (ziB l1 l2 y E) (by show (0:Int)<=20000;decide)).mono ?_;rintro e w1 ⟨F,l,rfl,P,m,h⟩;have R:=hid (NB.mk m (bn d.out.low h) (d.out.res.kept h) (by rw[l];exact d.out.res.z) P);clear m h l P;try go_wp2_with fail
  refine eP N trivial (λ_=>?_);clear N K d;refine A 7 trivial ?_;refine A 8 trivial ?_;refine A 9 trivial ?_;refine A 10 trivial ?_;refine A 11 trivial ?_;refine wpAnyH_done (by kernel_rfl) ?_ _;refine Pl.cutE (NB w F (b9 l1 l2) Tk.zero (D aE aM)) R.out ?_;intro X T;have HX:=hid T;clear T R;go_wp2_with (first
   | (go_at_call 69;refine(zfC F.g _).mono ?_;rintro e w2 ⟨rfl,n⟩;have o:=hid (HX.out.kept n);clear n)
   | (go_at_call 68;refine(zeT o.out.bd 77 _ _ (zhc 0 (by omega)) (zhc 1 (by omega)) (nC _ _) (nC _ _)).mono ?_;rintro e w3 ⟨rfl,p,q⟩;have s:=hid (o.out.go p q);clear p q)
   | (refine wpList_store_mid U 25 _ _ U F.g 0 (gD ((b9 l1 l2).lookM 0*256+(b9 l1 l2).lookM 1)).toArray U U (Bx.there s.out.bd.bx 0 15 (by rw[Fx.len];omega)) nU (sC _) ?_
      refine Pl.cutL (NB w F (cq l1 l2) Tk.zero (D aE aM)) (zwq s.out) ?_;intro Z W;have f:=hid W;clear W)
   | (refine wpList_load_mid U 41 _ U F.g 0 U (D (cq l1 l2) F.S) _ f.out.bd.row underlying41 U bV ?_)
   | (refine wpList_store_mid U 41 _ _ U w.heap.size 0 (D (cq l1 l2) F.S).toArray U U (f.out.res.there 0 75 (by rw[cy];omega)) bV (fG _ _ f.out.bd.isSl) ?_
      refine Pl.cutL (λV=>Below w.heap.size w V/\Bx V w.heap.size (D (cq l1 l2) F.S)/\bM V F.S (cq l1 l2)) (f.out.fin U) ?_;rintro V ⟨t,u,x⟩;have H:=hid t;have I:=hid u;have L:=hid x;clear t u x))
  have hl:=pD _ _ I.out.c;refine ao (v:=.tuple #[.agg (D (cq l1 l2) F.S).toArray,.int .i64 0]) ?_ U ⟨F.S,U,L.out,f.out.bd.fit,(f.out.bd.slNew f.out.r).mono f.out.B,H.out⟩;simp only[results,results37];simp;show (Result.andThen (Sem.run prog (loadVar 41 ⟨w.heap.size,0,none⟩) V) _)=_;rw[hl];rfl
theorem zjW(B:Nat)(i:TypeInfo)(hi:Tryz.prog.info? 5=some i)(ty:TypeId)(v:Value)(n:Nat)(xs:List Value){w:World}(b:w.ownsRow B 5 1 v n xs)(a:Option Addr)(c:Nat):(Builtin.append_ #[26,26] ty #[v,.slice a 0 c]).run prog w=.ok v w:=by
 have e:=bT (P:=prog) underlying26;have f:(Builtin.firstCells i.size 0 (.slice a 0 c)).run prog w=.ok #[] w:=by
  cases a with
  | none=>exact ic w i.size 0 0 c
  | some a=>exact ie w i.size 0 a 0 c [] (by simp) (λj v h=>by simp at h)
 rcases b.2 with⟨rfl,rfl⟩|⟨g,k,l,rfl,_,_,d,_⟩
 ·simp[Builtin.append_,e,sizeOf,typeInfo,hi,Builtin.lenOf,f]
 ·simp[Builtin.append_,e,sizeOf,typeInfo,hi,Builtin.lenOf,f,d,storeCells]
def jf(B:Nat)(v:Value)(l:List UInt8)(W:World):Prop:=∃ k a,v=.slice (some ⟨k,0,none⟩) l.length a/\l.length<=a/\B<=k/\Bx W k (dW l) /\ ∃ cs,W.heap[k]?=some (.cells cs 5 (0,0))
theorem jf.kept{B:Nat}{v:Value}{l:List UInt8}{W w1:World}(h:jf B v l W)(hb:Below W.heap.size W w1):jf B v l w1:=by
 obtain⟨k,a,h1,h2,h3,h4,cs,b⟩:=h;exact⟨k,a,h1,h2,h3,h4.kept hb,cs,(hb.block _ h4.z).trans b⟩
theorem jf.lt{B:Nat}{v:Value}{l:List UInt8}{W:World}(h:jf B v l W):∀ k,v.ownBlock=some k->B<=k/\k<W.heap.size:=λj e=>by
 obtain⟨k,a,h1,h2,h3,h4,_⟩:=h;rw[h1] at e;cases e;exact⟨h3,h4.z⟩
theorem jf.off{B b o:Nat}{v x:Value}{l:List UInt8}{W:World}(h:jf B v l W)(hb:b<B):jf B v l (W.setCell ⟨b,o,none⟩ x):=by
 obtain⟨k,a,h1,h2,h3,h4,cs,c⟩:=h;exact⟨k,a,h1,h2,h3,h4.far (by omega) x,cs,(dy (by omega)).trans c⟩
theorem jf.mono{B b:Nat}{v:Value}{l:List UInt8}{W:World}(h:jf B v l W)(hB:b<=B):jf b v l W:=by
 obtain⟨k,a,h1,h2,h3,h4⟩:=h;exact⟨k,a,h1,h2,ax hB h3,h4⟩
theorem jf.rw{B:Nat}{v:Value}{l:List UInt8}{W:World}(h:jf B v l W):∃ k,Rw W v k l/\B<=k/\v.ownBlock=some k:=by
 obtain⟨k,a,h1,h2,h3,h4,_⟩:=h;exact⟨k,Or.inr ⟨a,h1,h2,h4⟩,h3,by rw[h1];rfl⟩
theorem zrw{W:World}{B b s n c:Nat}{e:TypeId}{xs:List Value}(h:W.ownsRow B e s (.slice (some ⟨b,0,none⟩) n c) n xs):Bx W b xs/\n<=c/\B<=b /\ ∃ cs,W.heap[b]?=some (.cells cs e (0,0)):=by
 rcases h.2 with⟨h1,_⟩|⟨g,i,k,h1,hb,d,l,p,q,m⟩
 ·cases h1
 ·simp only[fd,aP,Addr.mk.injEq] at h1
  obtain⟨⟨rfl,_⟩,_,rfl⟩:=h1;refine⟨⟨(ay.1 d).1,λj v f=>?_,λo=>Lib.frozen_of_heap d o⟩,l,hb,_,d⟩;have a:=(aA.1 f).1;rw[h.1] at a;rw[aN,Lib.cell_of_heap d j,<- f,<- m,dI,Q a];simp
theorem zlW{ops:Array Oper}{rest:List Oper}{o:Oper}{a:Act}{w:World}{aj:Exit->Act->World->Prop}(m:o.guard=none)(s x:Operand)(L:o.op=.call { callee:=.builtin .append,args:=#[s,x],argTypes:=#[26,26] })
 (B g0:Nat) (M:a.eval s=.slice (some ⟨g0,0,none⟩) 0 0) (b:w.ownsRow B 5 1 (.slice (some ⟨g0,0,none⟩) 0 0) 0 []) (r:Value) (N:a.eval x=r) (l:List UInt8) (P:sliceAt w r l) (hb:l.length<=140737488355328) (hB:B<=w.heap.size)
 (h:∀ v' w',jf B v' l w'->Below B w w'->wpList prog ops aj rest (a.put o.dst v') w'):wpList prog ops aj (o::rest) a w:=by
 obtain⟨i0,n,t,v,y⟩:=info_parts zdV;by_cases e:l=[]
 ·subst e
  have z:∃ i c,r=.slice i 0 c:=by
   rcases P with⟨i,c,h1,_⟩|⟨g,o',c,h1,_⟩
   ·exact⟨i,c,h1⟩
   ·exact⟨_,c,h1⟩
  obtain⟨i,c,rfl⟩:=z;refine dS m λK V=>?_
  have p:=zjW B i0 n o.type _ 0 [] b i c;unfold Oper.wp;simp[execOp,L,resolve,invoke,builtin,M,N,p,Result.andThen];obtain⟨b1,b2,b3,E⟩:=zrw b;exact V _ _ (h _ w ⟨g0,0,U,ak _,b3,b1,E⟩ (aW _ _))
 ·rcases P with⟨i,c,_,h2⟩|⟨g,o',c,h1,h2,h3,h4⟩
  ·exact absurd h2 e
  ·have q:0<l.length:=by cases l with|nil=>exact absurd rfl e|cons _ _=>simp
   refine wpList_append_lies _ m s x _ L B 5 i0 _ 1 1 underlying26 n t v y U (by omega) _ 0 [] M b ⟨g,o',none⟩ l.length c (dW l) (N.trans h1) (by rw[zlG];omega) (λj u R=>?_) (λu T=>?_) q (by unfold maxLen;omega) (by omega) hB w.heap.size U ?_
   ·simp only[dW,aX,eF] at R
    obtain⟨cc,F,H⟩:=R;rw[<- H,show (⟨g,o',none⟩:Addr).add j=⟨g,o'+j,none⟩ by unfold Addr.add;split <;> simp_all];exact h4 j cc F
   ·simp only[dW,ex] at T
    obtain⟨cc,_,rfl⟩:=T;rfl
   ·intro g' I w' d f _ _
    rw[aN,ll] at d;obtain⟨b1,b2,b3,E⟩:=zrw d;exact h _ w' ⟨g',I,by rw[aN],b2,b3,b1,E⟩ ((aW B w).grown f hB (λk W=>(b.lt k W).1))
theorem Gm.own1(v:Value)(l:List UInt8)(w:World)(c:sliceAt w v l)(d:l.length<=140737488355328):Calls prog 30 #[v] w λe w'=>∃ v',e=.returned v'/\jf w.heap.size v' l w'/\Below w.heap.size w w':=by
 have f:=hid c;clear c;go_enter func30,ntmps30;go_wp2_with (refine zlW U _ _ U w.heap.size w.heap.size U (World.ownsRow_made w #[] 0 (ak _) (by unfold maxLen;omega) U) v U l (f.out.kept (stA (J w) _)) d (by simp) ?_;intro v' w2 a b;have g:=hid a;have h:=hid ((stA (J w) _).trans b);clear a b)
 exact ao (v:=v') (by simp[results,results30,go_sem]) U ⟨v',U,g.out,h.out⟩
structure OM (w : World) (M : Mach) (S : Sl) (Y : World) : Prop where
 low:Below w.heap.size w Y
 m:Bx Y w.heap.size (D M S)
 r:Bx Y (w.heap.size+1) (D aE aM)
 sl:bM Y S M
theorem OM.kept{w Y Y':World}{M:Mach}{S:Sl}(h:OM w M S Y)(hb:Below Y.heap.size Y Y'):OM w M S Y':=⟨bn h.low hb,h.m.kept hb,h.r.kept hb,h.sl.kept hb⟩
theorem OM.ss{w Y:World}{M:Mach}{S:Sl}(h:OM w M S Y):∀ j,j<5->Y.cell? ⟨w.heap.size,30+j,none⟩=some (S.get j):=λj a=>by
 rcases five a with rfl|rfl|rfl|rfl|rfl
 ·exact h.m.at 30 _ U
 ·exact h.m.at 31 _ U
 ·exact h.m.at 32 _ U
 ·exact h.m.at 33 _ U
 ·exact h.m.at 34 _ U
theorem jf.offs{B b:Nat}{v:Value}{l:List UInt8}{W:World}(h:jf B v l W)(hb:b<B)(vs:List Value)(o:Nat):jf B v l (W.setCells b o vs):=by
 obtain⟨k,a,h1,h2,h3,h4,cs,c⟩:=h;exact⟨k,a,h1,h2,h3,h4.fars (by omega) o vs,cs,(fO (by omega) vs o W).trans c⟩
theorem zrx(M:Mach)(S:Sl)(a x1 x2 x3 b:Value):gN (D M S) 30 [a,x1,x2,x3,b]=D M ⟨a,x1,x2,x3,b⟩:=rfl
theorem zwp{Y:World}{b:Nat}{M:Mach}{S:Sl}(h:Bx Y b (D aE aM)):Bx (Y.setCells b 0 (D M S)) b (D M S):=by
 have a:=h.puts 0 (D M S) (by rw[cy,cy];omega);rw[jJ _ _ (by rw[cy,cy])] at a;exact a
theorem bM.isSl2{W:World}{S:Sl}{M:Mach}(h:bM W S M):S.isSl:=λj b=>by
 obtain⟨a,c,e⟩:=h.lens j b;exact⟨_,_,_,e⟩
structure OwnS (B : Nat) (S : Sl) (M : Mach) (W : World) : Prop where
 own:∀ j,j<5->jf B (S.get j) (M.byt j) W
 dist:∀ i j k,i<5->j<5->i≠j->(S.get i).ownBlock=some k->(S.get j).ownBlock≠some k
theorem OwnS.slAt{B:Nat}{S:Sl}{M:Mach}{W:World}(h:OwnS B S M W):bM W S M:=λj a=>by
 obtain⟨k,b,_,_⟩:=(h.own j a).rw;exact b.slice
theorem OwnS.offs{B b:Nat}{S:Sl}{M:Mach}{W:World}(h:OwnS B S M W)(hb:b<B)(vs:List Value)(o:Nat):OwnS B S M (W.setCells b o vs):=⟨λj a=>(h.own j a).offs hb vs o,h.dist⟩
theorem OwnS.mk5{B f0 f1 f2 f3 f4 f5:Nat}{a x1 x2 x3 b:Value}{M:Mach}{W:World}(f:jf B a (M.byt 0) W)(h1:jf B x1 (M.byt 1) W)(h2:jf B x2 (M.byt 2) W)(h3:jf B x3 (M.byt 3) W)(h4:jf B b (M.byt 4) W)
 (l0:∀ k,a.ownBlock=some k->f0<=k/\k<f1) (l1:∀ k,x1.ownBlock=some k->f1<=k/\k<f2) (l2:∀ k,x2.ownBlock=some k->f2<=k/\k<f3) (l3:∀ k,x3.ownBlock=some k->f3<=k/\k<f4) (e:∀ k,b.ownBlock=some k->f4<=k/\k<f5) (g:f0<=f1/\f1<=f2/\f2<=f3/\f3<=f4/\f4<=f5):OwnS B ⟨a,x1,x2,x3,b⟩ M W:=by
 refine⟨λj c=>?_,λi j k hi c d e1 e2=>?_⟩
 ·rcases five c with rfl|rfl|rfl|rfl|rfl
  ·exact f
  ·exact h1
  ·exact h2
  ·exact h3
  ·exact h4
 ·rcases five hi with rfl|rfl|rfl|rfl|rfl <;> rcases five c with rfl|rfl|rfl|rfl|rfl
  all_goals first
   | exact d U
   | skip
  all_goals
   first
    | (have a1:=l0 k e1)|(have a1:=l1 k e1)|(have a1:=l2 k e1)|(have a1:=l3 k e1)|(have a1:=e k e1)
   first
    | (have a2:=l0 k e2)|(have a2:=l1 k e2)|(have a2:=l2 k e2)|(have a2:=l3 k e2)|(have a2:=e k e2)
   omega
theorem sL(M:Mach)(S:Sl)(w:World)(hs:bM w S M)(hl:∀ j,j<5->(M.byt j).length<=140737488355328):Calls prog 8 #[.agg (D M S).toArray] w λe w'=>∃ S',e=.returned (.agg (D M S').toArray)/\OwnS (w.heap.size+2) S' M w'/\Below w.heap.size w w':=by
 have HO0:=hid (OM.mk (stA (stA (J w) (.cells (D M S).toArray 41)) (.cells (D aE aM).toArray 41)) ((Bx.new w (D M S) 41 (b:=w.heap.size) U).over _) (Bx.new (w.alloc (.cells (D M S).toArray 41)) (D aE aM) 41 (b:=w.heap.size+1) (by simp)) (hs.kept (stA (stA (J w) _) _)));have HZ:Hid (w.heap.size+2<=((w.alloc (.cells (D M S).toArray 41)).alloc (.cells (D aE aM).toArray 41)).heap.size):=hid (by simp);have p:=hid hl;clear hs hl;go_enter func8,ntmps8;go_upto_region 2 with fail
 refine Pl.cutW (λY=>OM w M S Y/\w.heap.size+2<=Y.heap.size) ⟨HO0.out,HZ.out⟩ ?_;rintro Y ⟨hY,hYz⟩;have HY:=hid hY;have HYZ:=hid hYz;have k:∀ j,j<5->Y.drew.cell? ⟨w.heap.size,30+j,none⟩=some (S.get j):=(hY.kept (J Y).drew).ss;clear hY hYz HO0 HZ;refine mI (S:=λw'=>∀ j,j<5->w'.cell? ⟨w.heap.size,30+j,none⟩=some (S.get j)) (st:=21) (by kernel_rfl) ?_;refine bI 0 (λ_=>k) ?_;refine bI 1 (λ_=>k) ?_;refine bI 4 (λ_=>k) ?_;refine bI 5 (λ_=>k) ?_;refine bI 8 (λ_=>k) ?_;refine bI 9 (λ_=>k) ?_;refine bI 12 (λ_=>k) ?_;refine bI 13 (λ_=>k) ?_;refine bI 16 (λ_=>k) ?_;refine bI 17 (λ_=>k) ?_;refine j1 [] 2 (λ_ d=>d 0 (by omega)) k ?_;refine j1 [] 6 (λ_ d=>d 1 (by omega)) k ?_;refine j1 [] 10 (λ_ d=>d 2 (by omega)) k ?_;refine j1 [] 14 (λ_ d=>d 3 (by omega)) k ?_;refine j1 [] 18 (λ_ d=>d 4 (by omega)) k ?_;refine fP 3 (λK a=>?_);go_simp;go_at_call 30
 refine(Gm.own1 (S.get 0) (M.byt 0) _ ((HY.out.kept (J Y).drew).sl 0 (by omega)) (p.out 0 (by omega))).mono ?_;rintro e W1 ⟨g,rfl,hx0,B⟩;have E:=hid hx0;have x:=hid ((HY.out.kept (J Y).drew).kept B);have HB0:=hid B;clear hx0 B;try go_wp2_with fail
 refine gL a (λ_=>x.out.ss) ?_;clear a K;refine bI 20 (λ_=>x.out.ss) ?_;refine fP 7 (λK a=>?_);go_simp;go_at_call 30
 refine(Gm.own1 (S.get 1) (M.byt 1) _ ((x.out).sl 1 (by omega)) (p.out 1 (by omega))).mono ?_;rintro e W2 ⟨x1,rfl,hx1,F⟩;have q:=hid hx1;have H:=hid ((x.out).kept F);have HB1:=hid F;clear hx1 F;try go_wp2_with fail
 refine gL a (λ_=>H.out.ss) ?_;clear a K;refine fP 11 (λK a=>?_);go_simp;go_at_call 30
 refine(Gm.own1 (S.get 2) (M.byt 2) _ ((H.out).sl 2 (by omega)) (p.out 2 (by omega))).mono ?_;rintro e W3 ⟨x2,rfl,hx2,I⟩;have s:=hid hx2;have L:=hid ((H.out).kept I);have N:=hid I;clear hx2 I;try go_wp2_with fail
 refine gL a (λ_=>L.out.ss) ?_;clear a K;refine fP 15 (λK a=>?_);go_simp;go_at_call 30
 refine(Gm.own1 (S.get 3) (M.byt 3) _ ((L.out).sl 3 (by omega)) (p.out 3 (by omega))).mono ?_;rintro e W4 ⟨x3,rfl,hx3,P⟩;have t:=hid hx3;have R:=hid ((L.out).kept P);have y:=hid P;clear hx3 P;try go_wp2_with fail
 refine gL a (λ_=>R.out.ss) ?_;clear a K;refine fP 19 (λK a=>?_);go_simp;go_at_call 30
 refine(Gm.own1 (S.get 4) (M.byt 4) _ ((R.out).sl 4 (by omega)) (p.out 4 (by omega))).mono ?_;rintro e W5 ⟨i,rfl,hx4,T⟩;have W:=hid hx4;have l:=hid ((R.out).kept T);have u:=hid T;clear hx4 T;try go_wp2_with fail
 refine gL a (λ_=>l.out.ss) ?_;clear a K;have n:=l.out.ss;have hcs:∀ j,j<5->(W5.cell? ⟨w.heap.size,30+j,none⟩).isSome=true:=λj hj=>by rw[n j hj];rfl
 have hff:=l.out.m.f;have hzz:=l.out.m.z;have hc0:=n 0 (by omega);have hc1:=n 1 (by omega);have hc2:=n 2 (by omega);have hc3:=n 3 (by omega);have hc4:=n 4 (by omega);obtain⟨k0,p0,Z,_⟩:=E.out;obtain⟨k1,p1,ev1,_⟩:=q.out;obtain⟨k2,p2,ev2,_⟩:=s.out;obtain⟨k3,p3,ev3,_⟩:=t.out;obtain⟨k4,p4,ev4,_⟩:=W.out;have EV0:=hid Z;have EV1:=hid ev1;have EV2:=hid ev2;have EV3:=hid ev3;have EV4:=hid ev4;have o0:g.oneCell'=true:=by rw[Z];rfl
 have o1:x1.oneCell'=true:=by rw[ev1];rfl
 have o2:x2.oneCell'=true:=by rw[ev2];rfl
 have o3:x3.oneCell'=true:=by rw[ev3];rfl
 have o4:i.oneCell'=true:=by rw[ev4];rfl
 clear hcs n Z ev1 ev2 ev3 ev4;refine fP 21 (λK a=>?_);rw[EV0.out];go_simp;refine gL a (λh=>by simp at h) ?_;clear a K;refine bI 22 (λh=>by simp at h) ?_;refine fP 23 (λK a=>?_);rw[EV1.out];go_simp;refine gL a (λh=>by simp at h) ?_;clear a K;refine bI 24 (λh=>by simp at h) ?_;refine fP 25 (λK a=>?_);rw[EV2.out];go_simp;refine gL a (λh=>by simp at h) ?_;clear a K;refine bI 26 (λh=>by simp at h) ?_;refine fP 27 (λK a=>?_);rw[EV3.out];go_simp;refine gL a (λh=>by simp at h) ?_;clear a K;refine bI 28 (λh=>by simp at h) ?_;refine fP 29 (λK a=>?_);rw[EV4.out];go_simp;refine gL a (λh=>by simp at h) ?_;clear a K;refine lL (by kernel_rfl) ?_ _;rw[<- EV0.out,<- EV1.out,<- EV2.out,<- EV3.out,<- EV4.out];refine Pl.cutE (λV=>Below w.heap.size w V/\Bx V w.heap.size (D M ⟨g,x1,x2,x3,i⟩)/\Bx V (w.heap.size+1) (D aE aM)/\OwnS (w.heap.size+2) ⟨g,x1,x2,x3,i⟩ M V) ⟨Bl.puts (o:=30) l.out.low (ak _) [g,x1,x2,x3,i],zrx M S g x1 x2 x3 i ▸ l.out.m.puts 30 [g,x1,x2,x3,i] (by rw[cy];simp),l.out.r.fars (by omega) 30 [g,x1,x2,x3,i],?_⟩ ?_
 ·have z0:=HYZ.out
  have z1:=HB0.out.size;have z2:=HB1.out.size;have z3:=N.out.size;have z4:=y.out.size;have z5:=u.out.size;have hy:Y.drew.heap.size=Y.heap.size:=U;exact OwnS.mk5 (f0:=Y.heap.size) (f1:=W1.heap.size) (f2:=W2.heap.size) (f3:=W3.heap.size) (f4:=W4.heap.size) (f5:=W5.heap.size)
   (((((E.out.kept HB1.out).kept N.out).kept y.out).kept u.out).offs (by omega) [g,x1,x2,x3,i] 30 |>.mono z0) ((((q.out.kept N.out).kept y.out).kept u.out).offs (by omega) [g,x1,x2,x3,i] 30 |>.mono (by omega)) (((s.out.kept y.out).kept u.out).offs (by omega) [g,x1,x2,x3,i] 30 |>.mono (by omega)) ((t.out.kept u.out).offs (by omega) [g,x1,x2,x3,i] 30 |>.mono (by omega)) (W.out.offs (by omega) [g,x1,x2,x3,i] 30 |>.mono (by omega))
   E.out.lt q.out.lt s.out.lt t.out.lt W.out.lt (by omega)
 rintro V ⟨hV1,hV2,hV3,hV4⟩;have HV1:=hid hV1;have HV2:=hid hV2;have HV3:=hid hV3;have HV4:=hid hV4;clear hV1 hV2 hV3 hV4;go_wp2_with (first
  | (refine wpList_load_mid U 41 _ U w.heap.size 0 U (D M ⟨g,x1,x2,x3,i⟩) _ HV2.out.c underlying41 U bV ?_)
  | (refine wpList_store_mid U 41 _ _ U (w.heap.size+1) 0 (D M ⟨g,x1,x2,x3,i⟩).toArray U U (HV3.out.there 0 75 (by rw[cy];omega)) bV (fG _ _ HV4.out.slAt.isSl2) ?_
     refine Pl.cutL (λX=>Below w.heap.size w X/\Bx X (w.heap.size+1) (D M ⟨g,x1,x2,x3,i⟩)/\OwnS (w.heap.size+2) ⟨g,x1,x2,x3,i⟩ M X) ⟨Bl.puts HV1.out (by omega) _,zwp HV3.out,HV4.out.offs (by omega) _ _⟩ ?_;rintro X ⟨hX1,hX2,hX3⟩;have q:=hid hX1;have s:=hid hX2;have t:=hid hX3;clear hX1 hX2 hX3))
 exact ao (v:=.agg (D M ⟨g,x1,x2,x3,i⟩).toArray) (by simp only[results,results8];simp;exact Pl.res (pD _ _ s.out.c)) U ⟨_,U,t.out,q.out⟩
end Go.Proofs.YthghjlinhokimaaGreatDoor
