/-
  Parts of a proof, joined.
-/
import Derived.Test.YthghjlinhokimaaGreatDoorZcA
import Derived.Test.YthghjlinhokimaaGreatDoorZc04
set_option linter.all false
set_option maxRecDepth 100000
set_option maxHeartbeats 1600000
namespace Go.Proofs.YthghjlinhokimaaGreatDoor
open Go.ChangeShapes Go.WideShapes Go.ChangeAt Go.RowKit Go.Proofs.Tryz
section
variable {σ : Type} {m : C.Mem σ} {B nr nw : Nat} {cr cw : Array Value × Array Value} {I : World -> σ -> Prop} {T : σ -> Nat -> Prop}
def AP(B nr nw:Nat)(cr cw:Array Value × Array Value)(I:World->σ->Prop)(T:σ->Nat->Prop)(w:World)(p:Nat)(x a:C.St σ):Ending->World->Prop :=
 λe w'=>e=.returned (.tuple #[])/\PI B nr nw cr cw I T w' p a/\PM B T p x.s a.s w w'
theorem RS.boxS(R:RS m B nr nw cr cw I T){w w0 w1:World}{s:σ}{cs:Array Value}{t:TypeId}{T':Nat->Prop}(h:I w s)(b:Mv B (Tw T w0 s) T' w0 w1)(e:w0.heap=(w.alloc (.cells cs t)).heap)(c:t≠104:=by decide):w.heap.size<w1.heap.size /\ ∀ o,w1.cell? ⟨w.heap.size,o,none⟩=cs[o]?:=by
 have a:w.heap.size<w0.heap.size:=by rw[e];simp
 refine⟨ap a b.size,λo=>?_⟩;rw[b.cell a (R.outN h e c) o];exact(am (w:=w.alloc (.cells cs t)) (by rw[e])).trans (jb _ _ _ _ U)
theorem PI.boxS(R:RS m B nr nw cr cw I T){w w0 w1:World}{p:Nat}{x:C.St σ}{s':σ}{cs:Array Value}{t:TypeId}(h:PI B nr nw cr cw I T w p x)(b:PM B T p x.s s' w0 w1)(e:w0.heap=(w.alloc (.cells cs t)).heap)(c:t≠104:=by decide):w.heap.size<w1.heap.size /\ ∀ o,w1.cell? ⟨w.heap.size,o,none⟩=cs[o]?:=by
 have a:w.heap.size<w0.heap.size:=by rw[e];simp
 refine⟨ap a b.size,λo=>?_⟩;rw[PM.cell b a (by have:=h.lt;omega) (R.outN h.inv e c) o];exact(am (w:=w.alloc (.cells cs t)) (by rw[e])).trans (jb _ _ _ _ U)
theorem PI.regS{w:World}{p:Nat}{x:C.St σ}(h:PI B nr nw cr cw I T w p x)(i:Nat)(hi:i<8){w':World}(e:w'.heap=w.heap):w'.cell? ⟨p,i,none⟩=some (.int .u16 (x.c.r i)):=(am (w:=w) (by rw[e])).trans (h.reg i hi)
theorem PI.ltS{w:World}{p:Nat}{x:C.St σ}(h:PI B nr nw cr cw I T w p x){w':World}(e:w'.heap=w.heap):p<w'.heap.size:=by rw[e];exact h.lt
theorem PI.box(R:RS m B nr nw cr cw I T){w:World}{p:Nat}{x:C.St σ}(h:PI B nr nw cr cw I T w p x)(o:Obj):PI B nr nw cr cw I T (w.alloc o) p x:=h.kept R (stA (J w) o)
theorem PM.box{w:World}{p:Nat}{x:C.St σ}(R:RS m B nr nw cr cw I T)(h:PI B nr nw cr cw I T w p x)(o:Obj):PM B T p x.s x.s w (w.alloc o):=(PM.refl B T p x.s w).alloc (h.hB R) o
theorem PI.pre(R:RS m B nr nw cr cw I T){w:World}{p:Nat}{x:C.St σ}(a:PI B nr nw cr cw I T w p x){d s:Nat}(b:d<8)(e:s<8)(k:Nat)(n v:Int):p<w.heap.size/\p≠w.heap.size/\p<w.heap.size+1/\(0:Int)<=d/\(d:Int)<8/\(0:Int)<=s/\(s:Int)<8/\w.cell? ⟨p,d,none⟩=some (.int .u16 (x.c.r d))/\w.cell? ⟨p,s,none⟩=some (.int .u16 (x.c.r s))/\(0<=x.c.r d/\x.c.r d<=65535)/\(0<=x.c.r s/\x.c.r s<=65535)/\Hid (PI B nr nw cr cw I T w p x)/\Hid (RS m B nr nw cr cw I T) /\
 Hid (PI B nr nw cr cw I T (w.alloc (.cells #[.int .i64 k,.int .i64 d,.int .i64 s,.int .i64 n,.int .i64 v] 191)) p x)/\Hid (PM B T p x.s x.s w (w.alloc (.cells #[.int .i64 k,.int .i64 d,.int .i64 s,.int .i64 n,.int .i64 v] 191))) :=
 have h:=a.lt
 ⟨h,gc h,Nat.lt_succ_of_lt h,by omega,by omega,by omega,by omega,a.reg d b,a.reg s e,C.Cpu.r_bd a.ok d,C.Cpu.r_bd a.ok s,a,R,a.box R _,PM.box R a _⟩
def lw(m:C.Mem σ)(B nr nw:Nat)(cr cw:Array Value × Array Value)(I:World->σ->Prop)(T:σ->Nat->Prop)(k g:Nat):Prop :=
 RS m B nr nw cr cw I T->∀(d s:Nat) (n v:Int),d<8->s<8->0<=v->v<=65535->∀(w:World) (p:Nat) (x:C.St σ),PI B nr nw cr cw I T w p x->Calls prog g #[.pointer (some ⟨p,0,none⟩),iI k d s n v] w (AP B nr nw cr cw I T w p x (C.act m x k d s n v))
theorem wA:lw m B nr nw cr cw I T 0 289:=by
 intro R d s n v c e f b w p x a;go_enter func289,ntmps289;go_wp2;go_end0;exact⟨U,a.box R _,PM.box R a _⟩
theorem wB:lw m B nr nw cr cw I T 1 290:=by
 intro R d s n v e g r h w p x b;obtain⟨i,j,f,k,l,o,q,t,cs,rd,rs,c,a,u,y⟩:=b.pre R e g 1 n v;have z:=b.frozen d;clear b R;go_enter func290,ntmps290;go_wp2;go_region
 go_wp2;go_end0;exact⟨U,((c.out.putR a.out d e _ rs.1 rs.2).box a.out _).same a.out U,(((PM.refl B T p x.s w).set c.out.big d _).alloc (c.out.hB a.out) _).drew⟩
theorem wC:lw m B nr nw cr cw I T 2 291:=by
 intro R d s n v f h i b w p x c;obtain⟨j,k,g,l,o,q,r,t,cs,rd,rs,e,a,u,y⟩:=c.pre R f h 2 n v;have z:=c.frozen d;have E:IntKind.u16.wrap v=v:=by rw[eh];omega
 clear c R;go_enter func291,ntmps291;go_wp2;go_region
 go_wp2;go_end0;exact⟨U,((e.out.putR a.out d f _ i b).box a.out _).same a.out U,(((PM.refl B T p x.s w).set e.out.big d _).alloc (e.out.hB a.out) _).drew⟩
theorem wD:lw m B nr nw cr cw I T 3 292:=by
 intro R d s n v g h hv o w p x i;obtain⟨q,t,k,y,z,E,F,cd,cs,rd,rs,l,b,f,H⟩:=i.pre R g h 3 n v;obtain⟨_,_,_,_,_,_,_,L,M,_⟩:=i.cells;have N:Hid (∀(W:World) (u:Value),(W.cell? ⟨w.heap.size,1,none⟩=some (.int .i64 d)/\W.cell? ⟨w.heap.size,2,none⟩=some (.int .i64 s)/\W.cell? ⟨w.heap.size,3,none⟩=some (.int .i64 n)/\W.cell? ⟨p,15,none⟩=some (fw nr cr)/\W.cell? ⟨p,16,none⟩=some (fw nw cw)) ->
  ((W.setCell ⟨p,d,none⟩ u).cell? ⟨w.heap.size,1,none⟩=some (.int .i64 d)/\(W.setCell ⟨p,d,none⟩ u).cell? ⟨w.heap.size,2,none⟩=some (.int .i64 s)/\(W.setCell ⟨p,d,none⟩ u).cell? ⟨w.heap.size,3,none⟩=some (.int .i64 n)/\(W.setCell ⟨p,d,none⟩ u).cell? ⟨p,15,none⟩=some (fw nr cr)/\(W.setCell ⟨p,d,none⟩ u).cell? ⟨p,16,none⟩=some (fw nw cw))):=by
  rintro W u ⟨h1,h2,h3,h4,P⟩;exact⟨(az _ _ _ _ (by simp <;> omega)).trans h1,(az _ _ _ _ (by simp <;> omega)).trans h2,(az _ _ _ _ (by simp <;> omega)).trans h3,(az _ _ _ _ (by simp <;> omega)).trans h4,(az _ _ _ _ (by simp <;> omega)).trans P⟩
 clear i R;go_enter func292,ntmps292;go_wp2;go_region_held3 (λw'=>w'.cell? ⟨w.heap.size,1,none⟩=some (.int .i64 d)/\w'.cell? ⟨w.heap.size,2,none⟩=some (.int .i64 s)/\w'.cell? ⟨w.heap.size,3,none⟩=some (.int .i64 n)/\w'.cell? ⟨p,15,none⟩=some (fw nr cr)/\w'.cell? ⟨p,16,none⟩=some (fw nw cw))
  (first|(go_keep;done)|exact N.out _ _ (by assumption))
  (first
    | (go_at_call 293;refine(zda _ p s n (x.c.r s) h ?_ ?_).mono ?_;(exact f.out.regS s h U);(exact f.out.ltS U);rintro e w' ⟨rfl,rfl⟩)
    | (go_at_call 131;refine(zc9 b.out ((x.c.r s+n)%65536) (by omega) (by omega) _ x.s ?_).mono ?_;(exact f.out.invS b.out U);rintro e w2 ⟨rfl,j,a⟩;obtain⟨V,f2,z2⟩:=f.out.after a U;obtain⟨X,Y⟩:=b.out.boxS l.out.inv a U;have Z:w2.cell? ⟨p,d,none⟩=some (.int .u16 (x.c.r d)):=(V d).trans (f.out.reg d g)))
 go_wp2;go_end0;exact⟨U,((f.out.movedS b.out j a U).putR b.out d g _ (b.out.word _ _).1 (b.out.word _ _).2).same b.out U,((H.out.drew.moved a).set l.out.big d _)⟩
theorem wE:lw m B nr nw cr cw I T 5 296:=by
 intro R d s n v g h hv o w p x i;obtain⟨q,t,k,y,z,E,F,cd,cs,rd,rs,l,b,f,H⟩:=i.pre R g h 5 n v;obtain⟨_,_,_,_,_,_,_,L,M,_⟩:=i.cells;have N:Hid (∀(W:World) (u:Value),(W.cell? ⟨w.heap.size,1,none⟩=some (.int .i64 d)/\W.cell? ⟨w.heap.size,2,none⟩=some (.int .i64 s)/\W.cell? ⟨w.heap.size,3,none⟩=some (.int .i64 n)/\W.cell? ⟨p,15,none⟩=some (fw nr cr)/\W.cell? ⟨p,16,none⟩=some (fw nw cw)) ->
  ((W.setCell ⟨p,d,none⟩ u).cell? ⟨w.heap.size,1,none⟩=some (.int .i64 d)/\(W.setCell ⟨p,d,none⟩ u).cell? ⟨w.heap.size,2,none⟩=some (.int .i64 s)/\(W.setCell ⟨p,d,none⟩ u).cell? ⟨w.heap.size,3,none⟩=some (.int .i64 n)/\(W.setCell ⟨p,d,none⟩ u).cell? ⟨p,15,none⟩=some (fw nr cr)/\(W.setCell ⟨p,d,none⟩ u).cell? ⟨p,16,none⟩=some (fw nw cw))):=by
  rintro W u ⟨h1,h2,h3,h4,P⟩;exact⟨(az _ _ _ _ (by simp <;> omega)).trans h1,(az _ _ _ _ (by simp <;> omega)).trans h2,(az _ _ _ _ (by simp <;> omega)).trans h3,(az _ _ _ _ (by simp <;> omega)).trans h4,(az _ _ _ _ (by simp <;> omega)).trans P⟩
 have V:IntKind.u16.wrap (m.rd x.s ((x.c.r s+n)%65536)).1=(m.rd x.s ((x.c.r s+n)%65536)).1:=by have:=R.byte x.s ((x.c.r s+n)%65536);rw[eh];omega
 clear i R;go_enter func296,ntmps296;go_wp2;go_region_held3 (λw'=>w'.cell? ⟨w.heap.size,1,none⟩=some (.int .i64 d)/\w'.cell? ⟨w.heap.size,2,none⟩=some (.int .i64 s)/\w'.cell? ⟨w.heap.size,3,none⟩=some (.int .i64 n)/\w'.cell? ⟨p,15,none⟩=some (fw nr cr)/\w'.cell? ⟨p,16,none⟩=some (fw nw cw))
  (first|(go_keep;done)|exact N.out _ _ (by assumption))
  (first
    | (go_at_call 293;refine(zda _ p s n (x.c.r s) h ?_ ?_).mono ?_;(exact f.out.regS s h U);(exact f.out.ltS U);rintro e w' ⟨rfl,rfl⟩)
    | (go_at_call 210;refine(b.out.read _ x.s ((x.c.r s+n)%65536) (by omega) (by omega) ?_).mono ?_;(exact f.out.invS b.out U);rintro e w2 ⟨rfl,j,a⟩;obtain⟨X,f2,z2⟩:=f.out.after a U;obtain⟨Y,Z⟩:=b.out.boxS l.out.inv a U;have cd2:w2.cell? ⟨p,d,none⟩=some (.int .u16 (x.c.r d)):=(X d).trans (f.out.reg d g)))
 go_wp2;go_end0;exact⟨U,((f.out.movedS b.out j a U).putR b.out d g _ (b.out.byte _ _).1 (eA (b.out.byte _ _).2 (by omega))).same b.out U,((H.out.drew.moved a).set l.out.big d _)⟩
theorem wF(R:RS m B nr nw cr cw I T)(d s:Nat)(n v:Int)(h:d<8)(o:s<8)(W:0<=v)(q:v<=65535)(w:World)(p:Nat)(x:C.St σ)(b:2<=m.fuel x.s)(i:PI B nr nw cr cw I T w p x):Calls prog 294 #[.pointer (some ⟨p,0,none⟩),iI 4 d s n v] w (AP B nr nw cr cw I T w p x (C.act m x 4 d s n v)):=by
 obtain⟨t,u,l,y,z,E,F,X,cs,rd,rs,H,g,f,L⟩:=i.pre R h o 4 n v;obtain⟨_,_,_,_,_,_,_,M,N,_⟩:=i.cells;have j:=hid b;clear b;clear i R;go_enter func294,ntmps294;go_wp2;go_region_held3 (λw'=>w'.cell? ⟨w.heap.size,1,none⟩=some (.int .i64 d)/\w'.cell? ⟨w.heap.size,2,none⟩=some (.int .i64 s)/\w'.cell? ⟨w.heap.size,3,none⟩=some (.int .i64 n)/\w'.cell? ⟨p,s,none⟩=some (.int .u16 (x.c.r s))/\w'.cell? ⟨p,15,none⟩=some (fw nr cr)/\w'.cell? ⟨p,16,none⟩=some (fw nw cw))
  ((go_keep;done))
  (first
    | (go_at_call 293;refine(zda _ p d n (x.c.r d) h ?_ ?_).mono ?_;(exact f.out.regS d h U);(exact f.out.ltS U);rintro e w' ⟨rfl,rfl⟩)
    | (go_at_call 295;refine(zfw g.out ((x.c.r d+n)%65536) (x.c.r s) (by omega) (by omega) rs.1 rs.2 _ x.s j.out ?_).mono ?_;(exact f.out.invS g.out U);rintro e w2 ⟨rfl,k,a⟩;obtain⟨Y,f2,z2⟩:=f.out.after a U;obtain⟨P,V⟩:=g.out.boxS H.out.inv a U))
 go_wp2;go_end0;exact⟨U,f.out.movedS g.out k a U,L.out.drew.moved a⟩
theorem wG(R:RS m B nr nw cr cw I T)(d s:Nat)(n v:Int)(h:d<8)(o:s<8)(X:0<=v)(q:v<=65535)(w:World)(p:Nat)(x:C.St σ)(b:1<=m.fuel x.s)(i:PI B nr nw cr cw I T w p x):Calls prog 297 #[.pointer (some ⟨p,0,none⟩),iI 6 d s n v] w (AP B nr nw cr cw I T w p x (C.act m x 6 d s n v)):=by
 obtain⟨t,u,l,y,z,E,F,Y,cs,rd,rs,H,g,f,L⟩:=i.pre R h o 6 n v;obtain⟨_,_,_,_,_,_,_,M,N,_⟩:=i.cells;have P:IntKind.u8.wrap (x.c.r s)=x.c.r s%256:=fK _;have j:=hid b;clear b;clear i R;go_enter func297,ntmps297;go_wp2;go_region_held3 (λw'=>w'.cell? ⟨w.heap.size,1,none⟩=some (.int .i64 d)/\w'.cell? ⟨w.heap.size,2,none⟩=some (.int .i64 s)/\w'.cell? ⟨w.heap.size,3,none⟩=some (.int .i64 n)/\w'.cell? ⟨p,s,none⟩=some (.int .u16 (x.c.r s))/\w'.cell? ⟨p,15,none⟩=some (fw nr cr)/\w'.cell? ⟨p,16,none⟩=some (fw nw cw))
  ((go_keep;done))
  (first
    | (go_at_call 293;refine(zda _ p d n (x.c.r d) h ?_ ?_).mono ?_;(exact f.out.regS d h U);(exact f.out.ltS U);rintro e w' ⟨rfl,rfl⟩)
    | (go_at_call 298;refine(g.out.write _ x.s ((x.c.r d+n)%65536) (x.c.r s%256) (by omega) (by omega) (by omega) (by omega) j.out ?_).mono ?_;(exact f.out.invS g.out U);rintro e w2 ⟨rfl,k,a⟩;obtain⟨Z,f2,z2⟩:=f.out.after a U;obtain⟨V,W⟩:=g.out.boxS H.out.inv a U))
 go_wp2;go_end0;exact⟨U,f.out.movedS g.out k a U,L.out.drew.moved a⟩
end
section
variable {σ : Type} {m : C.Mem σ} {B nr nw : Nat} {cr cw : Array Value × Array Value} {I : World -> σ -> Prop} {T : σ -> Nat -> Prop}
theorem sv(R:RS m B nr nw cr cw I T)(k:Nat)(h:li k)(d s:Nat)(n v:Int)(g:d<8)(j:s<8)(Z:-16<=n/\n<=15)(w:World)(p:Nat)(x:C.St σ)(l:PI B nr nw cr cw I T w p x):Calls prog 299 #[.pointer (some ⟨p,0,none⟩),iI k d s n v] w (AP B nr nw cr cw I T w p x (C.both x k d s)):=by
 obtain⟨t,y,o,z,E,F,H,cd,cs,rd,rs,q,b,L,M⟩:=l.pre R g j k n v;have HS:Hid (∀(W:World) (u:Value),(W.cell? ⟨w.heap.size,0,none⟩=some (.int .i64 k)/\W.cell? ⟨w.heap.size,1,none⟩=some (.int .i64 d)/\W.cell? ⟨w.heap.size,2,none⟩=some (.int .i64 s)/\W.cell? ⟨w.heap.size,3,none⟩=some (.int .i64 n)/\W.cell? ⟨w.heap.size,4,none⟩=some (.int .i64 v))->((W.setCell ⟨p,d,none⟩ u).cell? ⟨w.heap.size,0,none⟩=some (.int .i64 k)/\(W.setCell ⟨p,d,none⟩ u).cell? ⟨w.heap.size,1,none⟩=some (.int .i64 d)/\(W.setCell ⟨p,d,none⟩ u).cell? ⟨w.heap.size,2,none⟩=some (.int .i64 s)/\(W.setCell ⟨p,d,none⟩ u).cell? ⟨w.heap.size,3,none⟩=some (.int .i64 n)/\(W.setCell ⟨p,d,none⟩ u).cell? ⟨w.heap.size,4,none⟩=some (.int .i64 v))):=by
  rintro W u ⟨h1,h2,h3,h4,N⟩;exact⟨(az _ _ _ _ (by simp <;> omega)).trans h1,(az _ _ _ _ (by simp <;> omega)).trans h2,(az _ _ _ _ (by simp <;> omega)).trans h3,(az _ _ _ _ (by simp <;> omega)).trans h4,(az _ _ _ _ (by simp <;> omega)).trans N⟩
 clear l R;go_enter func299,ntmps299;go_wp2;go_region_with ((go_at_call 304;refine(zez b.out k d s n v (x.c.r s) h g rs.1 rs.2 _ p x ?_).mono ?_;(exact L.out.same b.out U);rintro e w2 ⟨rfl,a,f⟩;obtain⟨P,V⟩:=q.out.boxS b.out f U;have X:w2.cell? ⟨p,s,none⟩=some (.int .u16 (x.c.r s)):=a.reg s j;have Y:=a.reg d g;have f2:=a.frozen d;have z2:=a.lt;have i:=hid a;clear a))
 all_goals go_wp2
 all_goals go_end0
 all_goals exact⟨U,((i.out.putR b.out d g _ (znr k h _ _ rd.1 rd.2 rs.1 rs.2).1 (znr k h _ _ rd.1 rd.2 rs.1 rs.2).2)).same b.out U,((M.out.drew.trans f).set q.out.big d _)⟩
theorem zxz(R:RS m B nr nw cr cw I T)(d s:Nat)(n v:Int)(g:d<8)(i:s<8)(V:-16<=n/\n<=15)(w:World)(p:Nat)(x:C.St σ)(j:PI B nr nw cr cw I T w p x):Calls prog 303 #[.pointer (some ⟨p,0,none⟩),iI 14 d s n v] w (AP B nr nw cr cw I T w p x (C.act m x 14 d s n v)):=by
 obtain⟨l,o,k,q,t,u,y,W,cs,rd,rs,z,f,E,F⟩:=j.pre R g i 14 n v;have H:li 14:=Or.inr (Or.inr (Or.inr (Or.inl U)));clear j R;go_enter func303,ntmps303;go_wp2;go_region_held3 (λw'=>w'.cell? ⟨w.heap.size,0,none⟩=some (.int .i64 14)/\w'.cell? ⟨w.heap.size,1,none⟩=some (.int .i64 d)/\w'.cell? ⟨w.heap.size,2,none⟩=some (.int .i64 s)/\w'.cell? ⟨w.heap.size,3,none⟩=some (.int .i64 n)/\w'.cell? ⟨w.heap.size,4,none⟩=some (.int .i64 v)/\w'.cell? ⟨p,s,none⟩=some (.int .u16 (x.c.r s)))
  ((go_keep;done))
  ((go_at_call 304;refine(zez f.out 14 d s n v (x.c.r s) H g rs.1 rs.2 _ p x ?_).mono ?_;(exact E.out.same f.out U);rintro e w2 ⟨rfl,a,b⟩;obtain⟨L,M⟩:=z.out.boxS f.out b U;have N:w2.cell? ⟨p,s,none⟩=some (.int .u16 (x.c.r s)):=a.reg s i;have P:=a.reg d g;have f2:=a.frozen d;have z2:=a.lt;have h:=hid a;clear a))
 go_wp2;go_end0;exact⟨U,h.out.same f.out U,F.out.drew.trans b⟩
theorem zxA(R:RS m B nr nw cr cw I T)(d s:Nat)(n v:Int)(h:d<8)(k:s<8)(hn:-16<=n/\n<=15)(w:World)(p:Nat)(x:C.St σ)(l:PI B nr nw cr cw I T w p x):Calls prog 305 #[.pointer (some ⟨p,0,none⟩),iI 15 d s n v] w (AP B nr nw cr cw I T w p x (C.act m x 15 d s n v)):=by
 obtain⟨t,y,o,z,E,F,H,cd,cs,rd,rs,q,f,L,M⟩:=l.pre R h k 15 n v;have i:li 15:=Or.inr (Or.inl U);have hw:=eh n;have a:0<=n%65536/\n%65536<=65535:=by omega
 have N:Hid (∀(W:World) (u:Value),(W.cell? ⟨w.heap.size,0,none⟩=some (.int .i64 15)/\W.cell? ⟨w.heap.size,1,none⟩=some (.int .i64 d)/\W.cell? ⟨w.heap.size,2,none⟩=some (.int .i64 s)/\W.cell? ⟨w.heap.size,3,none⟩=some (.int .i64 n)/\W.cell? ⟨w.heap.size,4,none⟩=some (.int .i64 v))->((W.setCell ⟨p,d,none⟩ u).cell? ⟨w.heap.size,0,none⟩=some (.int .i64 15)/\(W.setCell ⟨p,d,none⟩ u).cell? ⟨w.heap.size,1,none⟩=some (.int .i64 d)/\(W.setCell ⟨p,d,none⟩ u).cell? ⟨w.heap.size,2,none⟩=some (.int .i64 s)/\(W.setCell ⟨p,d,none⟩ u).cell? ⟨w.heap.size,3,none⟩=some (.int .i64 n)/\(W.setCell ⟨p,d,none⟩ u).cell? ⟨w.heap.size,4,none⟩=some (.int .i64 v))):=by
  rintro W u ⟨h1,h2,h3,h4,P⟩;exact⟨(az _ _ _ _ (by simp <;> omega)).trans h1,(az _ _ _ _ (by simp <;> omega)).trans h2,(az _ _ _ _ (by simp <;> omega)).trans h3,(az _ _ _ _ (by simp <;> omega)).trans h4,(az _ _ _ _ (by simp <;> omega)).trans P⟩
 clear l R;go_enter func305,ntmps305;go_wp2;go_region_held3 (λw'=>w'.cell? ⟨w.heap.size,0,none⟩=some (.int .i64 15)/\w'.cell? ⟨w.heap.size,1,none⟩=some (.int .i64 d)/\w'.cell? ⟨w.heap.size,2,none⟩=some (.int .i64 s)/\w'.cell? ⟨w.heap.size,3,none⟩=some (.int .i64 n)/\w'.cell? ⟨w.heap.size,4,none⟩=some (.int .i64 v))
  (first|(go_keep;done)|exact N.out _ _ (by assumption))
  ((go_at_call 304;refine(zez f.out 15 d s n v (n%65536) i h a.1 a.2 _ p x ?_).mono ?_;(exact L.out.same f.out U);rintro e w2 ⟨rfl,b,g⟩;obtain⟨V,X⟩:=q.out.boxS f.out g U;have Y:w2.cell? ⟨p,s,none⟩=some (.int .u16 (x.c.r s)):=b.reg s k;have Z:=b.reg d h;have f2:=b.frozen d;have z2:=b.lt;have j:=hid b;clear b))
 go_wp2;go_end0;exact⟨U,((j.out.putR f.out d h _ (znr 15 i _ _ rd.1 rd.2 a.1 a.2).1 (znr 15 i _ _ rd.1 rd.2 a.1 a.2).2)).same f.out U,((M.out.drew.trans g).set q.out.big d _)⟩
theorem zxB(R:RS m B nr nw cr cw I T)(d s:Nat)(n v:Int)(t:d<8)(u:s<8)(y:0<=v)(h:v<=65535)(w:World)(p:Nat)(x:C.St σ)(b:2<=m.fuel x.s)(g:PI B nr nw cr cw I T w p x):Calls prog 311 #[.pointer (some ⟨p,0,none⟩),iI 20 d s n v] w (AP B nr nw cr cw I T w p x (C.act m x 20 d s n v)):=by
 obtain⟨z,E,o,F,H,L,M,Y,cs,rd,rs,q,i,N,P⟩:=g.pre R t u 20 n v;obtain⟨Z,_,_,_,_,_,_,V,W,_⟩:=g.cells;have hw:IntKind.u16.wrap v=v:=by rw[eh];omega
 have r:=hid g.ok;have j:=hid b;clear b;clear g R;go_enter func311,ntmps311;go_wp2_with (go_at_call 285;refine(ze9 i.out x.c.PC r.out.2.2.1 r.out.2.2.2 _ p x j.out ?_).mono ?_;(exact N.out);rintro e w2 ⟨rfl,a,f⟩;obtain⟨X,k⟩:=q.out.boxS i.out f U;have q4:=k 4;have f2:=a.frozen 8;have z2:=a.lt;obtain⟨e8,_,_,_,_,_,_,_,_,_⟩:=a.cells;have l:=hid a;clear a)
 go_end0;exact⟨U,l.out.putPC i.out v y h,(P.out.trans f).set q.out.big 8 _⟩
theorem zxC:lw m B nr nw cr cw I T 21 312:=by
 intro R d s n v i j F k w p x g;obtain⟨l,o,h,q,r,t,u,H,cs,rd,rs,y,b,z,E⟩:=g.pre R i j 21 n v;clear g R;go_enter func312,ntmps312;go_wp2_with (go_at_call 313;refine(zh9 b.out _ p x ?_).mono ?_;(exact z.out);rintro e w2 ⟨rfl,a,c⟩;have f2:=a.frozen 8;have z2:=a.lt;obtain⟨L,_,_,_,_,_,_,_,_,_⟩:=a.cells;have f:=hid a;clear a)
 go_end0;exact⟨U,f.out.putPC b.out _ (b.out.word _ _).1 (b.out.word _ _).2,(E.out.trans c).set y.out.big 8 _⟩
theorem zxD(R:RS m B nr nw cr cw I T)(d s:Nat)(n v:Int)(l:d<8)(o:s<8)(V:0<=v)(q:v<=65535)(w:World)(p:Nat)(x:C.St σ)(a:2<=m.fuel x.s)(j:PI B nr nw cr cw I T w p x):Calls prog 314 #[.pointer (some ⟨p,0,none⟩),iI 22 d s n v] w (AP B nr nw cr cw I T w p x (C.act m x 22 d s n v)):=by
 obtain⟨t,u,k,y,z,E,F,W,cs,rd,rs,H,g,L,M⟩:=j.pre R l o 22 n v;have h:=hid a;clear a;clear j R;go_enter func314,ntmps314;go_wp2;go_region_with ((go_at_call 285;refine(ze9 g.out (x.c.r s) rs.1 rs.2 _ p x h.out ?_).mono ?_;(exact L.out.same g.out U);rintro e w2 ⟨rfl,b,f⟩;obtain⟨N,P⟩:=H.out.boxS g.out f U;have i:=hid b;clear b))
 all_goals go_wp2
 all_goals go_end0
 all_goals exact⟨U,i.out.same g.out U,M.out.drew.trans f⟩
theorem zxE:lw m B nr nw cr cw I T 23 315:=by
 intro R d s n v f l M o w p x i;obtain⟨q,r,j,t,u,y,z,N,cs,rd,rs,k,b,E,F⟩:=i.pre R f l 23 n v;clear i R;go_enter func315,ntmps315;go_wp2_with (go_at_call 313;refine(zh9 b.out _ p x ?_).mono ?_;(exact E.out);rintro e w2 ⟨rfl,a,c⟩;obtain⟨H,g⟩:=k.out.boxS b.out c U;have q1:=g 1;have L:=a.reg d f;have f2:=a.frozen d;have z2:=a.lt;have h:=hid a;clear a)
 go_region
 go_wp2;go_end0;exact⟨U,(h.out.putR b.out d f _ (b.out.word _ _).1 (b.out.word _ _).2).same b.out U,((F.out.trans c).set k.out.big d _).drew⟩
theorem zxF:lw m B nr nw cr cw I T 24 316:=by
 intro R d s n v f g u h w p x a;obtain⟨i,j,e,k,l,o,q,y,cs,rd,rs,c,b,z,E⟩:=a.pre R f g 24 n v;have F:=a.frozen 13;obtain⟨_,_,_,_,_,r,t,_,_,_⟩:=a.cells;clear a R;go_enter func316,ntmps316;go_wp2;go_end0;exact⟨U,((c.out.putMay b.out true).box b.out _).same b.out U,((PM.refl B T p x.s w).set c.out.big 13 _).alloc (c.out.hB b.out) _⟩
theorem zxG:lw m B nr nw cr cw I T 25 317:=by
 intro R d s n v f g u h w p x a;obtain⟨i,j,e,k,l,o,q,y,cs,rd,rs,c,b,z,E⟩:=a.pre R f g 25 n v;have F:=a.frozen 13;obtain⟨_,_,_,_,_,r,t,_,_,_⟩:=a.cells;clear a R;go_enter func317,ntmps317;go_wp2;go_end0;exact⟨U,((c.out.putMay b.out false).box b.out _).same b.out U,((PM.refl B T p x.s w).set c.out.big 13 _).alloc (c.out.hB b.out) _⟩
theorem zxH:lw m B nr nw cr cw I T 27 320:=by
 intro R d s n v f g u h w p x a;obtain⟨i,j,e,k,l,o,q,y,cs,rd,rs,c,b,z,E⟩:=a.pre R f g 27 n v;have F:=a.frozen 14;obtain⟨_,_,_,_,_,r,t,_,_,_⟩:=a.cells;clear a R;go_enter func320,ntmps320;go_wp2;go_end0;exact⟨U,((c.out.putWaits b.out true).box b.out _).same b.out U,((PM.refl B T p x.s w).set c.out.big 14 _).alloc (c.out.hB b.out) _⟩
theorem zxI:lw m B nr nw cr cw I T 26 318:=by
 intro R d s n v h i E j w p x f;obtain⟨k,l,g,o,q,r,t,F,cs,rd,rs,H,u,y,z⟩:=f.pre R h i 26 n v;clear f R;go_enter func318,ntmps318;go_wp2_with (go_at_call 319;refine(zjG u.out _ p x ?_).mono ?_;(exact y.out);rintro e w2 ⟨rfl,a,b⟩;have c:=hid a;clear a)
 go_end0;exact⟨U,c.out,z.out.trans b⟩
theorem zxJ(R:RS m B nr nw cr cw I T)(d s:Nat)(n v:Int)(j:d<8)(k:s<8)(H:0<=v)(l:v<=65535)(w:World)(p:Nat)(x:C.St σ)(a:4<=m.fuel x.s)(h:PI B nr nw cr cw I T w p x):Calls prog 322 #[.pointer (some ⟨p,0,none⟩),iI 31 d s n v] w (AP B nr nw cr cw I T w p x (C.act m x 31 d s n v)):=by
 obtain⟨o,q,i,r,t,u,y,L,cs,rd,rs,M,z,E,F⟩:=h.pre R j k 31 n v;have c:=hid a;clear a;clear h R;go_enter func322,ntmps322;go_wp2_with (go_at_call 252;refine(zjF z.out 4 (by omega) (by omega) _ p x c.out ?_).mono ?_;(exact E.out);rintro e w2 ⟨rfl,b,f⟩;have g:=hid b;clear b)
 go_end0;exact⟨U,g.out,F.out.trans f⟩
end
end Go.Proofs.YthghjlinhokimaaGreatDoor
