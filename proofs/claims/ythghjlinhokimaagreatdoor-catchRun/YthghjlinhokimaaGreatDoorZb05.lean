/-
  Parts of a proof, joined.
-/
import Derived.Test.YthghjlinhokimaaGreatDoorZbA
import Derived.Test.YthghjlinhokimaaGreatDoorZb04
set_option linter.all false
set_option maxRecDepth 100000
set_option maxHeartbeats 1600000
open Option renaming none->G,some->A
open Go renaming World->u,Value->π,Calls->Δ
open Go.Proofs.Tryz renaming prog->ω
open Go.Value renaming int->J,pointer->aB
open Go.IntKind renaming i64->Q,u16->Y
open Go.Obj renaming cells->χ
namespace Go.Proofs.YthghjlinhokimaaGreatDoor
open Go.ChangeShapes Go.WideShapes Go.ChangeAt Go.RowKit Go.Proofs.Tryz
section
variable {σ : Type} {m : C.Mem σ} {B nr nw : Nat} {cr cw : Array π × Array π} {I : u -> σ -> Prop} {T : σ -> Nat -> Prop}
def AP(B nr nw:Nat)(cr cw:Array π × Array π)(I:u->σ->Prop)(T:σ->Nat->Prop)(w:u)(p:Nat)(x a:C.St σ):Ending->u->Prop :=
 λe w'=>e=.returned (.tuple #[])/\PI B nr nw cr cw I T w' p a/\PM B T p x.s a.s w w'
theorem RS.boxS(R:RS m B nr nw cr cw I T){w w0 w1:u}{s:σ}{cs:Array π}{t:TypeId}{T':Nat->Prop}(h:I w s)(b:Mv B (Tw T w0 s) T' w0 w1)(e:w0.heap=(w.alloc (χ cs t)).heap)(c:t≠104:=by decide):w.heap.size<w1.heap.size /\ ∀ o,w1.cell? ⟨w.heap.size,o,G⟩=cs[o]?:=by
 have a:w.heap.size<w0.heap.size:=by rw[e];simp
 refine⟨Θ a b.size,λo=>?_⟩;rw[b.cell a (R.outN h e c) o];exact(Φ (w:=w.alloc (χ cs t)) (by rw[e])).trans (ly _ _ _ _ D)
theorem PI.boxS(R:RS m B nr nw cr cw I T){w w0 w1:u}{p:Nat}{x:C.St σ}{s':σ}{cs:Array π}{t:TypeId}(h:PI B nr nw cr cw I T w p x)(b:PM B T p x.s s' w0 w1)(e:w0.heap=(w.alloc (χ cs t)).heap)(c:t≠104:=by decide):w.heap.size<w1.heap.size /\ ∀ o,w1.cell? ⟨w.heap.size,o,G⟩=cs[o]?:=by
 have a:w.heap.size<w0.heap.size:=by rw[e];simp
 refine⟨Θ a b.size,λo=>?_⟩;rw[PM.cell b a (by have:=h.lt;omega) (R.outN h.inv e c) o];exact(Φ (w:=w.alloc (χ cs t)) (by rw[e])).trans (ly _ _ _ _ D)
theorem PI.regS{w:u}{p:Nat}{x:C.St σ}(h:PI B nr nw cr cw I T w p x)(i:Nat)(hi:i<8){w':u}(e:w'.heap=w.heap):w'.cell? ⟨p,i,G⟩=A (J Y (x.c.r i)):=(Φ (w:=w) (by rw[e])).trans (h.reg i hi)
theorem PI.ltS{w:u}{p:Nat}{x:C.St σ}(h:PI B nr nw cr cw I T w p x){w':u}(e:w'.heap=w.heap):p<w'.heap.size:=by rw[e];exact h.lt
theorem PI.box(R:RS m B nr nw cr cw I T){w:u}{p:Nat}{x:C.St σ}(h:PI B nr nw cr cw I T w p x)(o:Obj):PI B nr nw cr cw I T (w.alloc o) p x:=h.kept R (stA (aR w) o)
theorem PM.box{w:u}{p:Nat}{x:C.St σ}(R:RS m B nr nw cr cw I T)(h:PI B nr nw cr cw I T w p x)(o:Obj):PM B T p x.s x.s w (w.alloc o):=(PM.refl B T p x.s w).alloc (h.hB R) o
theorem PI.pre(R:RS m B nr nw cr cw I T){w:u}{p:Nat}{x:C.St σ}(a:PI B nr nw cr cw I T w p x){d s:Nat}(b:d<8)(e:s<8)(k:Nat)(n v:Int):p<w.heap.size/\p≠w.heap.size/\p<w.heap.size+1/\(0:Int)<=d/\(d:Int)<8/\(0:Int)<=s/\(s:Int)<8/\w.cell? ⟨p,d,G⟩=A (J Y (x.c.r d))/\w.cell? ⟨p,s,G⟩=A (J Y (x.c.r s))/\(0<=x.c.r d/\x.c.r d<=65535)/\(0<=x.c.r s/\x.c.r s<=65535)/\Hid (PI B nr nw cr cw I T w p x)/\Hid (RS m B nr nw cr cw I T) /\
 Hid (PI B nr nw cr cw I T (w.alloc (χ #[J Q k,J Q d,J Q s,J Q n,J Q v] 191)) p x)/\Hid (PM B T p x.s x.s w (w.alloc (χ #[J Q k,J Q d,J Q s,J Q n,J Q v] 191))) :=
 have h:=a.lt
 ⟨h,i6 h,Nat.lt_succ_of_lt h,by omega,by omega,by omega,by omega,a.reg d b,a.reg s e,C.Cpu.r_bd a.ok d,C.Cpu.r_bd a.ok s,a,R,a.box R _,PM.box R a _⟩
def pP(m:C.Mem σ)(B nr nw:Nat)(cr cw:Array π × Array π)(I:u->σ->Prop)(T:σ->Nat->Prop)(k g:Nat):Prop :=
 RS m B nr nw cr cw I T->∀(d s:Nat) (n v:Int),d<8->s<8->0<=v->v<=65535->∀(w:u) (p:Nat) (x:C.St σ),PI B nr nw cr cw I T w p x->Δ ω g #[aB (A ⟨p,0,G⟩),lG k d s n v] w (AP B nr nw cr cw I T w p x (C.act m x k d s n v))
theorem BX:pP m B nr nw cr cw I T 0 289:=by
 intro R d s n v c e f b w p x a;go_enter func289,ntmps289;go_wp2;go_end0;exact⟨D,a.box R _,PM.box R a _⟩
theorem BY:pP m B nr nw cr cw I T 1 290:=by
 intro R d s n v e g r h w p x b;obtain⟨i,j,f,k,l,o,q,t,cs,rd,rs,c,a,y,z⟩:=b.pre R e g 1 n v;have E:=b.frozen d;clear b R;go_enter func290,ntmps290;go_wp2;go_region
 go_wp2;go_end0;exact⟨D,((c.out.putR a.out d e _ rs.1 rs.2).box a.out _).same a.out D,(((PM.refl B T p x.s w).set c.out.big d _).alloc (c.out.hB a.out) _).drew⟩
theorem BZ:pP m B nr nw cr cw I T 2 291:=by
 intro R d s n v f h i b w p x c;obtain⟨j,k,g,l,o,q,r,t,cs,rd,rs,e,a,y,z⟩:=c.pre R f h 2 n v;have E:=c.frozen d;have F:IntKind.u16.wrap v=v:=by rw[iu];omega
 clear c R;go_enter func291,ntmps291;go_wp2;go_region
 go_wp2;go_end0;exact⟨D,((e.out.putR a.out d f _ i b).box a.out _).same a.out D,(((PM.refl B T p x.s w).set e.out.big d _).alloc (e.out.hB a.out) _).drew⟩
theorem B0:pP m B nr nw cr cw I T 3 292:=by
 intro R d s n v g h Z o w p x i;obtain⟨q,t,k,y,z,E,F,cd,cs,rd,rs,l,b,f,H⟩:=i.pre R g h 3 n v;obtain⟨_,_,_,_,_,_,_,L,M,_⟩:=i.cells;have N:Hid (∀(W:u) (θ:π),(W.cell? ⟨w.heap.size,1,G⟩=A (J Q d)/\W.cell? ⟨w.heap.size,2,G⟩=A (J Q s)/\W.cell? ⟨w.heap.size,3,G⟩=A (J Q n)/\W.cell? ⟨p,15,G⟩=A (fw nr cr)/\W.cell? ⟨p,16,G⟩=A (fw nw cw)) ->
  ((W.setCell ⟨p,d,G⟩ θ).cell? ⟨w.heap.size,1,G⟩=A (J Q d)/\(W.setCell ⟨p,d,G⟩ θ).cell? ⟨w.heap.size,2,G⟩=A (J Q s)/\(W.setCell ⟨p,d,G⟩ θ).cell? ⟨w.heap.size,3,G⟩=A (J Q n)/\(W.setCell ⟨p,d,G⟩ θ).cell? ⟨p,15,G⟩=A (fw nr cr)/\(W.setCell ⟨p,d,G⟩ θ).cell? ⟨p,16,G⟩=A (fw nw cw))):=by
  rintro W θ ⟨h1,h2,h3,h4,P⟩;exact⟨(ap _ _ _ _ (by simp <;> omega)).trans h1,(ap _ _ _ _ (by simp <;> omega)).trans h2,(ap _ _ _ _ (by simp <;> omega)).trans h3,(ap _ _ _ _ (by simp <;> omega)).trans h4,(ap _ _ _ _ (by simp <;> omega)).trans P⟩
 clear i R;go_enter func292,ntmps292;go_wp2;go_region_held3 (λw'=>w'.cell? ⟨w.heap.size,1,G⟩=A (J Q d)/\w'.cell? ⟨w.heap.size,2,G⟩=A (J Q s)/\w'.cell? ⟨w.heap.size,3,G⟩=A (J Q n)/\w'.cell? ⟨p,15,G⟩=A (fw nr cr)/\w'.cell? ⟨p,16,G⟩=A (fw nw cw))
  (first|(go_keep;done)|exact N.out _ _ (by assumption))
  (first
    | (go_at_call 293;refine(zdB _ p s n (x.c.r s) h ?_ ?_).mono ?_;(exact f.out.regS s h D);(exact f.out.ltS D);rintro e w' ⟨rfl,rfl⟩)
    | (go_at_call 131;refine(zdA b.out ((x.c.r s+n)%65536) (by omega) (by omega) _ x.s ?_).mono ?_;(exact f.out.invS b.out D);rintro e w2 ⟨rfl,j,a⟩;obtain⟨k2,f2,z2⟩:=f.out.after a D;obtain⟨U,V⟩:=b.out.boxS l.out.inv a D;have X:w2.cell? ⟨p,d,G⟩=A (J Y (x.c.r d)):=(k2 d).trans (f.out.reg d g)))
 go_wp2;go_end0;exact⟨D,((f.out.movedS b.out j a D).putR b.out d g _ (b.out.word _ _).1 (b.out.word _ _).2).same b.out D,((H.out.drew.moved a).set l.out.big d _)⟩
theorem B4:pP m B nr nw cr cw I T 5 296:=by
 intro R d s n v g h hv o w p x i;obtain⟨q,t,k,y,z,E,F,cd,cs,rd,rs,l,b,f,H⟩:=i.pre R g h 5 n v;obtain⟨_,_,_,_,_,_,_,L,M,_⟩:=i.cells;have N:Hid (∀(W:u) (θ:π),(W.cell? ⟨w.heap.size,1,G⟩=A (J Q d)/\W.cell? ⟨w.heap.size,2,G⟩=A (J Q s)/\W.cell? ⟨w.heap.size,3,G⟩=A (J Q n)/\W.cell? ⟨p,15,G⟩=A (fw nr cr)/\W.cell? ⟨p,16,G⟩=A (fw nw cw)) ->
  ((W.setCell ⟨p,d,G⟩ θ).cell? ⟨w.heap.size,1,G⟩=A (J Q d)/\(W.setCell ⟨p,d,G⟩ θ).cell? ⟨w.heap.size,2,G⟩=A (J Q s)/\(W.setCell ⟨p,d,G⟩ θ).cell? ⟨w.heap.size,3,G⟩=A (J Q n)/\(W.setCell ⟨p,d,G⟩ θ).cell? ⟨p,15,G⟩=A (fw nr cr)/\(W.setCell ⟨p,d,G⟩ θ).cell? ⟨p,16,G⟩=A (fw nw cw))):=by
  rintro W θ ⟨h1,h2,h3,h4,P⟩;exact⟨(ap _ _ _ _ (by simp <;> omega)).trans h1,(ap _ _ _ _ (by simp <;> omega)).trans h2,(ap _ _ _ _ (by simp <;> omega)).trans h3,(ap _ _ _ _ (by simp <;> omega)).trans h4,(ap _ _ _ _ (by simp <;> omega)).trans P⟩
 have U:IntKind.u16.wrap (m.rd x.s ((x.c.r s+n)%65536)).1=(m.rd x.s ((x.c.r s+n)%65536)).1:=by have:=R.byte x.s ((x.c.r s+n)%65536);rw[iu];omega
 clear i R;go_enter func296,ntmps296;go_wp2;go_region_held3 (λw'=>w'.cell? ⟨w.heap.size,1,G⟩=A (J Q d)/\w'.cell? ⟨w.heap.size,2,G⟩=A (J Q s)/\w'.cell? ⟨w.heap.size,3,G⟩=A (J Q n)/\w'.cell? ⟨p,15,G⟩=A (fw nr cr)/\w'.cell? ⟨p,16,G⟩=A (fw nw cw))
  (first|(go_keep;done)|exact N.out _ _ (by assumption))
  (first
    | (go_at_call 293;refine(zdB _ p s n (x.c.r s) h ?_ ?_).mono ?_;(exact f.out.regS s h D);(exact f.out.ltS D);rintro e w' ⟨rfl,rfl⟩)
    | (go_at_call 210;refine(b.out.read _ x.s ((x.c.r s+n)%65536) (by omega) (by omega) ?_).mono ?_;(exact f.out.invS b.out D);rintro e w2 ⟨rfl,j,a⟩;obtain⟨k2,f2,z2⟩:=f.out.after a D;obtain⟨V,X⟩:=b.out.boxS l.out.inv a D;have Z:w2.cell? ⟨p,d,G⟩=A (J Y (x.c.r d)):=(k2 d).trans (f.out.reg d g)))
 go_wp2;go_end0;exact⟨D,((f.out.movedS b.out j a D).putR b.out d g _ (b.out.byte _ _).1 (iA (b.out.byte _ _).2 (by omega))).same b.out D,((H.out.drew.moved a).set l.out.big d _)⟩
theorem B5(R:RS m B nr nw cr cw I T)(d s:Nat)(n v:Int)(h:d<8)(o:s<8)(W:0<=v)(q:v<=65535)(w:u)(p:Nat)(x:C.St σ)(b:2<=m.fuel x.s)(i:PI B nr nw cr cw I T w p x):Δ ω 294 #[aB (A ⟨p,0,G⟩),lG 4 d s n v] w (AP B nr nw cr cw I T w p x (C.act m x 4 d s n v)):=by
 obtain⟨t,y,l,z,E,F,H,X,cs,rd,rs,L,g,f,M⟩:=i.pre R h o 4 n v;obtain⟨_,_,_,_,_,_,_,N,P,_⟩:=i.cells;have j:=hid b;clear b;clear i R;go_enter func294,ntmps294;go_wp2;go_region_held3 (λw'=>w'.cell? ⟨w.heap.size,1,G⟩=A (J Q d)/\w'.cell? ⟨w.heap.size,2,G⟩=A (J Q s)/\w'.cell? ⟨w.heap.size,3,G⟩=A (J Q n)/\w'.cell? ⟨p,s,G⟩=A (J Y (x.c.r s))/\w'.cell? ⟨p,15,G⟩=A (fw nr cr)/\w'.cell? ⟨p,16,G⟩=A (fw nw cw))
  ((go_keep;done))
  (first
    | (go_at_call 293;refine(zdB _ p d n (x.c.r d) h ?_ ?_).mono ?_;(exact f.out.regS d h D);(exact f.out.ltS D);rintro e w' ⟨rfl,rfl⟩)
    | (go_at_call 295;refine(zgb g.out ((x.c.r d+n)%65536) (x.c.r s) (by omega) (by omega) rs.1 rs.2 _ x.s j.out ?_).mono ?_;(exact f.out.invS g.out D);rintro e w2 ⟨rfl,k,a⟩;obtain⟨k2,f2,z2⟩:=f.out.after a D;obtain⟨U,V⟩:=g.out.boxS L.out.inv a D))
 go_wp2;go_end0;exact⟨D,f.out.movedS g.out k a D,M.out.drew.moved a⟩
theorem B6(R:RS m B nr nw cr cw I T)(d s:Nat)(n v:Int)(h:d<8)(o:s<8)(X:0<=v)(q:v<=65535)(w:u)(p:Nat)(x:C.St σ)(b:1<=m.fuel x.s)(i:PI B nr nw cr cw I T w p x):Δ ω 297 #[aB (A ⟨p,0,G⟩),lG 6 d s n v] w (AP B nr nw cr cw I T w p x (C.act m x 6 d s n v)):=by
 obtain⟨t,y,l,z,E,F,H,Z,cs,rd,rs,L,g,f,M⟩:=i.pre R h o 6 n v;obtain⟨_,_,_,_,_,_,_,N,P,_⟩:=i.cells;have U:IntKind.u8.wrap (x.c.r s)=x.c.r s%256:=jx _;have j:=hid b;clear b;clear i R;go_enter func297,ntmps297;go_wp2;go_region_held3 (λw'=>w'.cell? ⟨w.heap.size,1,G⟩=A (J Q d)/\w'.cell? ⟨w.heap.size,2,G⟩=A (J Q s)/\w'.cell? ⟨w.heap.size,3,G⟩=A (J Q n)/\w'.cell? ⟨p,s,G⟩=A (J Y (x.c.r s))/\w'.cell? ⟨p,15,G⟩=A (fw nr cr)/\w'.cell? ⟨p,16,G⟩=A (fw nw cw))
  ((go_keep;done))
  (first
    | (go_at_call 293;refine(zdB _ p d n (x.c.r d) h ?_ ?_).mono ?_;(exact f.out.regS d h D);(exact f.out.ltS D);rintro e w' ⟨rfl,rfl⟩)
    | (go_at_call 298;refine(g.out.write _ x.s ((x.c.r d+n)%65536) (x.c.r s%256) (by omega) (by omega) (by omega) (by omega) j.out ?_).mono ?_;(exact f.out.invS g.out D);rintro e w2 ⟨rfl,k,a⟩;obtain⟨k2,f2,z2⟩:=f.out.after a D;obtain⟨V,W⟩:=g.out.boxS L.out.inv a D))
 go_wp2;go_end0;exact⟨D,f.out.movedS g.out k a D,M.out.drew.moved a⟩
end
section
variable {σ : Type} {m : C.Mem σ} {B nr nw : Nat} {cr cw : Array π × Array π} {I : u -> σ -> Prop} {T : σ -> Nat -> Prop}
theorem zl(R:RS m B nr nw cr cw I T)(k:Nat)(h:pB k)(d s:Nat)(n v:Int)(g:d<8)(j:s<8)(Z:-16<=n/\n<=15)(w:u)(p:Nat)(x:C.St σ)(l:PI B nr nw cr cw I T w p x):Δ ω 299 #[aB (A ⟨p,0,G⟩),lG k d s n v] w (AP B nr nw cr cw I T w p x (C.both x k d s)):=by
 obtain⟨t,y,o,z,E,F,H,cd,cs,rd,rs,q,b,L,M⟩:=l.pre R g j k n v;have HS:Hid (∀(W:u) (θ:π),(W.cell? ⟨w.heap.size,0,G⟩=A (J Q k)/\W.cell? ⟨w.heap.size,1,G⟩=A (J Q d)/\W.cell? ⟨w.heap.size,2,G⟩=A (J Q s)/\W.cell? ⟨w.heap.size,3,G⟩=A (J Q n)/\W.cell? ⟨w.heap.size,4,G⟩=A (J Q v))->((W.setCell ⟨p,d,G⟩ θ).cell? ⟨w.heap.size,0,G⟩=A (J Q k)/\(W.setCell ⟨p,d,G⟩ θ).cell? ⟨w.heap.size,1,G⟩=A (J Q d)/\(W.setCell ⟨p,d,G⟩ θ).cell? ⟨w.heap.size,2,G⟩=A (J Q s)/\(W.setCell ⟨p,d,G⟩ θ).cell? ⟨w.heap.size,3,G⟩=A (J Q n)/\(W.setCell ⟨p,d,G⟩ θ).cell? ⟨w.heap.size,4,G⟩=A (J Q v))):=by
  rintro W θ ⟨h1,h2,h3,h4,N⟩;exact⟨(ap _ _ _ _ (by simp <;> omega)).trans h1,(ap _ _ _ _ (by simp <;> omega)).trans h2,(ap _ _ _ _ (by simp <;> omega)).trans h3,(ap _ _ _ _ (by simp <;> omega)).trans h4,(ap _ _ _ _ (by simp <;> omega)).trans N⟩
 clear l R;go_enter func299,ntmps299;go_wp2;go_region_with ((go_at_call 304;refine(ze8 b.out k d s n v (x.c.r s) h g rs.1 rs.2 _ p x ?_).mono ?_;(exact L.out.same b.out D);rintro e w2 ⟨rfl,a,f⟩;obtain⟨P,U⟩:=q.out.boxS b.out f D;have V:w2.cell? ⟨p,s,G⟩=A (J Y (x.c.r s)):=a.reg s j;have X:=a.reg d g;have f2:=a.frozen d;have z2:=a.lt;have i:=hid a;clear a))
 all_goals go_wp2
 all_goals go_end0
 all_goals exact⟨D,((i.out.putR b.out d g _ (zpV k h _ _ rd.1 rd.2 rs.1 rs.2).1 (zpV k h _ _ rd.1 rd.2 rs.1 rs.2).2)).same b.out D,((M.out.drew.trans f).set q.out.big d _)⟩
theorem zAF(R:RS m B nr nw cr cw I T)(d s:Nat)(n v:Int)(g:d<8)(i:s<8)(V:-16<=n/\n<=15)(w:u)(p:Nat)(x:C.St σ)(j:PI B nr nw cr cw I T w p x):Δ ω 303 #[aB (A ⟨p,0,G⟩),lG 14 d s n v] w (AP B nr nw cr cw I T w p x (C.act m x 14 d s n v)):=by
 obtain⟨l,o,k,q,t,y,z,W,cs,rd,rs,E,f,F,H⟩:=j.pre R g i 14 n v;have L:pB 14:=Or.inr (Or.inr (Or.inr (Or.inl D)));clear j R;go_enter func303,ntmps303;go_wp2;go_region_held3 (λw'=>w'.cell? ⟨w.heap.size,0,G⟩=A (J Q 14)/\w'.cell? ⟨w.heap.size,1,G⟩=A (J Q d)/\w'.cell? ⟨w.heap.size,2,G⟩=A (J Q s)/\w'.cell? ⟨w.heap.size,3,G⟩=A (J Q n)/\w'.cell? ⟨w.heap.size,4,G⟩=A (J Q v)/\w'.cell? ⟨p,s,G⟩=A (J Y (x.c.r s)))
  ((go_keep;done))
  ((go_at_call 304;refine(ze8 f.out 14 d s n v (x.c.r s) L g rs.1 rs.2 _ p x ?_).mono ?_;(exact F.out.same f.out D);rintro e w2 ⟨rfl,a,b⟩;obtain⟨M,N⟩:=E.out.boxS f.out b D;have P:w2.cell? ⟨p,s,G⟩=A (J Y (x.c.r s)):=a.reg s i;have U:=a.reg d g;have f2:=a.frozen d;have z2:=a.lt;have h:=hid a;clear a))
 go_wp2;go_end0;exact⟨D,h.out.same f.out D,H.out.drew.trans b⟩
theorem zAG(R:RS m B nr nw cr cw I T)(d s:Nat)(n v:Int)(h:d<8)(k:s<8)(hn:-16<=n/\n<=15)(w:u)(p:Nat)(x:C.St σ)(l:PI B nr nw cr cw I T w p x):Δ ω 305 #[aB (A ⟨p,0,G⟩),lG 15 d s n v] w (AP B nr nw cr cw I T w p x (C.act m x 15 d s n v)):=by
 obtain⟨t,y,o,z,E,F,H,cd,cs,rd,rs,q,f,L,M⟩:=l.pre R h k 15 n v;have i:pB 15:=Or.inr (Or.inl D);have hw:=iu n;have a:0<=n%65536/\n%65536<=65535:=by omega
 have N:Hid (∀(W:u) (θ:π),(W.cell? ⟨w.heap.size,0,G⟩=A (J Q 15)/\W.cell? ⟨w.heap.size,1,G⟩=A (J Q d)/\W.cell? ⟨w.heap.size,2,G⟩=A (J Q s)/\W.cell? ⟨w.heap.size,3,G⟩=A (J Q n)/\W.cell? ⟨w.heap.size,4,G⟩=A (J Q v))->((W.setCell ⟨p,d,G⟩ θ).cell? ⟨w.heap.size,0,G⟩=A (J Q 15)/\(W.setCell ⟨p,d,G⟩ θ).cell? ⟨w.heap.size,1,G⟩=A (J Q d)/\(W.setCell ⟨p,d,G⟩ θ).cell? ⟨w.heap.size,2,G⟩=A (J Q s)/\(W.setCell ⟨p,d,G⟩ θ).cell? ⟨w.heap.size,3,G⟩=A (J Q n)/\(W.setCell ⟨p,d,G⟩ θ).cell? ⟨w.heap.size,4,G⟩=A (J Q v))):=by
  rintro W θ ⟨h1,h2,h3,h4,P⟩;exact⟨(ap _ _ _ _ (by simp <;> omega)).trans h1,(ap _ _ _ _ (by simp <;> omega)).trans h2,(ap _ _ _ _ (by simp <;> omega)).trans h3,(ap _ _ _ _ (by simp <;> omega)).trans h4,(ap _ _ _ _ (by simp <;> omega)).trans P⟩
 clear l R;go_enter func305,ntmps305;go_wp2;go_region_held3 (λw'=>w'.cell? ⟨w.heap.size,0,G⟩=A (J Q 15)/\w'.cell? ⟨w.heap.size,1,G⟩=A (J Q d)/\w'.cell? ⟨w.heap.size,2,G⟩=A (J Q s)/\w'.cell? ⟨w.heap.size,3,G⟩=A (J Q n)/\w'.cell? ⟨w.heap.size,4,G⟩=A (J Q v))
  (first|(go_keep;done)|exact N.out _ _ (by assumption))
  ((go_at_call 304;refine(ze8 f.out 15 d s n v (n%65536) i h a.1 a.2 _ p x ?_).mono ?_;(exact L.out.same f.out D);rintro e w2 ⟨rfl,b,g⟩;obtain⟨U,V⟩:=q.out.boxS f.out g D;have X:w2.cell? ⟨p,s,G⟩=A (J Y (x.c.r s)):=b.reg s k;have Z:=b.reg d h;have f2:=b.frozen d;have z2:=b.lt;have j:=hid b;clear b))
 go_wp2;go_end0;exact⟨D,((j.out.putR f.out d h _ (zpV 15 i _ _ rd.1 rd.2 a.1 a.2).1 (zpV 15 i _ _ rd.1 rd.2 a.1 a.2).2)).same f.out D,((M.out.drew.trans g).set q.out.big d _)⟩
theorem zAH(R:RS m B nr nw cr cw I T)(d s:Nat)(n v:Int)(t:d<8)(y:s<8)(z:0<=v)(h:v<=65535)(w:u)(p:Nat)(x:C.St σ)(b:2<=m.fuel x.s)(g:PI B nr nw cr cw I T w p x):Δ ω 311 #[aB (A ⟨p,0,G⟩),lG 20 d s n v] w (AP B nr nw cr cw I T w p x (C.act m x 20 d s n v)):=by
 obtain⟨E,F,o,H,L,M,N,Z,cs,rd,rs,q,i,P,U⟩:=g.pre R t y 20 n v;obtain⟨c8,_,_,_,_,_,_,V,W,_⟩:=g.cells;have hw:IntKind.u16.wrap v=v:=by rw[iu];omega
 have r:=hid g.ok;have j:=hid b;clear b;clear g R;go_enter func311,ntmps311;go_wp2_with (go_at_call 285;refine(zfO i.out x.c.PC r.out.2.2.1 r.out.2.2.2 _ p x j.out ?_).mono ?_;(exact P.out);rintro e w2 ⟨rfl,a,f⟩;obtain⟨X,k⟩:=q.out.boxS i.out f D;have q4:=k 4;have f2:=a.frozen 8;have z2:=a.lt;obtain⟨e8,_,_,_,_,_,_,_,_,_⟩:=a.cells;have l:=hid a;clear a)
 go_end0;exact⟨D,l.out.putPC i.out v z h,(U.out.trans f).set q.out.big 8 _⟩
theorem zAI:pP m B nr nw cr cw I T 21 312:=by
 intro R d s n v i j H k w p x g;obtain⟨l,o,h,q,r,t,y,L,cs,rd,rs,z,b,E,F⟩:=g.pre R i j 21 n v;clear g R;go_enter func312,ntmps312;go_wp2_with (go_at_call 313;refine(zjy b.out _ p x ?_).mono ?_;(exact E.out);rintro e w2 ⟨rfl,a,c⟩;have f2:=a.frozen 8;have z2:=a.lt;obtain⟨M,_,_,_,_,_,_,_,_,_⟩:=a.cells;have f:=hid a;clear a)
 go_end0;exact⟨D,f.out.putPC b.out _ (b.out.word _ _).1 (b.out.word _ _).2,(F.out.trans c).set z.out.big 8 _⟩
theorem zAJ(R:RS m B nr nw cr cw I T)(d s:Nat)(n v:Int)(l:d<8)(o:s<8)(V:0<=v)(q:v<=65535)(w:u)(p:Nat)(x:C.St σ)(a:2<=m.fuel x.s)(j:PI B nr nw cr cw I T w p x):Δ ω 314 #[aB (A ⟨p,0,G⟩),lG 22 d s n v] w (AP B nr nw cr cw I T w p x (C.act m x 22 d s n v)):=by
 obtain⟨t,y,k,z,E,F,H,W,cs,rd,rs,L,g,M,N⟩:=j.pre R l o 22 n v;have h:=hid a;clear a;clear j R;go_enter func314,ntmps314;go_wp2;go_region_with ((go_at_call 285;refine(zfO g.out (x.c.r s) rs.1 rs.2 _ p x h.out ?_).mono ?_;(exact M.out.same g.out D);rintro e w2 ⟨rfl,b,f⟩;obtain⟨P,U⟩:=L.out.boxS g.out f D;have i:=hid b;clear b))
 all_goals go_wp2
 all_goals go_end0
 all_goals exact⟨D,i.out.same g.out D,N.out.drew.trans f⟩
theorem zAK:pP m B nr nw cr cw I T 23 315:=by
 intro R d s n v f l N o w p x i;obtain⟨q,r,j,t,y,z,E,P,cs,rd,rs,k,b,F,H⟩:=i.pre R f l 23 n v;clear i R;go_enter func315,ntmps315;go_wp2_with (go_at_call 313;refine(zjy b.out _ p x ?_).mono ?_;(exact F.out);rintro e w2 ⟨rfl,a,c⟩;obtain⟨L,g⟩:=k.out.boxS b.out c D;have q1:=g 1;have M:=a.reg d f;have f2:=a.frozen d;have z2:=a.lt;have h:=hid a;clear a)
 go_region
 go_wp2;go_end0;exact⟨D,(h.out.putR b.out d f _ (b.out.word _ _).1 (b.out.word _ _).2).same b.out D,((H.out.trans c).set k.out.big d _).drew⟩
theorem zAL:pP m B nr nw cr cw I T 24 316:=by
 intro R d s n v f g y h w p x a;obtain⟨i,j,e,k,l,o,q,z,cs,rd,rs,c,b,E,F⟩:=a.pre R f g 24 n v;have H:=a.frozen 13;obtain⟨_,_,_,_,_,r,t,_,_,_⟩:=a.cells;clear a R;go_enter func316,ntmps316;go_wp2;go_end0;exact⟨D,((c.out.putMay b.out true).box b.out _).same b.out D,((PM.refl B T p x.s w).set c.out.big 13 _).alloc (c.out.hB b.out) _⟩
theorem zAM:pP m B nr nw cr cw I T 25 317:=by
 intro R d s n v f g y h w p x a;obtain⟨i,j,e,k,l,o,q,z,cs,rd,rs,c,b,E,F⟩:=a.pre R f g 25 n v;have H:=a.frozen 13;obtain⟨_,_,_,_,_,r,t,_,_,_⟩:=a.cells;clear a R;go_enter func317,ntmps317;go_wp2;go_end0;exact⟨D,((c.out.putMay b.out false).box b.out _).same b.out D,((PM.refl B T p x.s w).set c.out.big 13 _).alloc (c.out.hB b.out) _⟩
theorem zAN:pP m B nr nw cr cw I T 27 320:=by
 intro R d s n v f g y h w p x a;obtain⟨i,j,e,k,l,o,q,z,cs,rd,rs,c,b,E,F⟩:=a.pre R f g 27 n v;have H:=a.frozen 14;obtain⟨_,_,_,_,_,r,t,_,_,_⟩:=a.cells;clear a R;go_enter func320,ntmps320;go_wp2;go_end0;exact⟨D,((c.out.putWaits b.out true).box b.out _).same b.out D,((PM.refl B T p x.s w).set c.out.big 14 _).alloc (c.out.hB b.out) _⟩
theorem zAO:pP m B nr nw cr cw I T 26 318:=by
 intro R d s n v h i F j w p x f;obtain⟨k,l,g,o,q,r,t,H,cs,rd,rs,L,y,z,E⟩:=f.pre R h i 26 n v;clear f R;go_enter func318,ntmps318;go_wp2_with (go_at_call 319;refine(zlt y.out _ p x ?_).mono ?_;(exact z.out);rintro e w2 ⟨rfl,a,b⟩;have c:=hid a;clear a)
 go_end0;exact⟨D,c.out,E.out.trans b⟩
theorem zAP(R:RS m B nr nw cr cw I T)(d s:Nat)(n v:Int)(j:d<8)(k:s<8)(L:0<=v)(l:v<=65535)(w:u)(p:Nat)(x:C.St σ)(a:4<=m.fuel x.s)(h:PI B nr nw cr cw I T w p x):Δ ω 322 #[aB (A ⟨p,0,G⟩),lG 31 d s n v] w (AP B nr nw cr cw I T w p x (C.act m x 31 d s n v)):=by
 obtain⟨o,q,i,r,t,y,z,M,cs,rd,rs,N,E,F,H⟩:=h.pre R j k 31 n v;have c:=hid a;clear a;clear h R;go_enter func322,ntmps322;go_wp2_with (go_at_call 252;refine(zls E.out 4 (by omega) (by omega) _ p x c.out ?_).mono ?_;(exact F.out);rintro e w2 ⟨rfl,b,f⟩;have g:=hid b;clear b)
 go_end0;exact⟨D,g.out,H.out.trans f⟩
end
end Go.Proofs.YthghjlinhokimaaGreatDoor
