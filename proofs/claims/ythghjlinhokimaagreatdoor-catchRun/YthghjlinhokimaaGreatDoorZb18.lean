/-
  Parts of a proof, joined.
-/
import Derived.Test.YthghjlinhokimaaGreatDoorZbA
import Derived.Test.YthghjlinhokimaaGreatDoorZb13
import Derived.Test.YthghjlinhokimaaGreatDoorZb16
set_option linter.all false
set_option maxRecDepth 100000
set_option maxHeartbeats 3200000
open Option renaming none->G,some->A
open Go renaming World->u,Value->π,Calls->Δ,TypeId->aJ
open Bool renaming false->ξ,true->Γ
open Go.Proofs.Tryz renaming prog->ω
open Go.Act renaming put->ag
open Go.RowKit renaming intOf->aU
open Go.Value renaming int->J,bool->ν
open Go.IntKind renaming i64->Q,u16->Y
open Go.Ending renaming returned->μ
open Go.Obj renaming cells->χ
namespace Go.Proofs.YthghjlinhokimaaGreatDoor
open Go.ChangeShapes Go.WideShapes Go.ChangeAt Go.RowKit Go.Proofs.Tryz
section
variable {σ : Type} {m : C.Mem σ} {B nr nw : Nat} {cr cw : Array π × Array π} {I : u -> σ -> Prop} {T : σ -> Nat -> Prop}
theorem zri(c:C.Cpu)(hc:c.R.length=8)(fr fw:π)(n:Int):(#[J Y (c.r 0),J Y (c.r 1),J Y (c.r 2),J Y (c.r 3),J Y (c.r 4),J Y (c.r 5),J Y (c.r 6),J Y (c.r 7),J Y c.PC,ν c.Z,ν c.N,ν c.C,ν c.V,ν c.May,ν c.Waits,fr,fw,J Q n]:Array π)=dJ c fr fw n:=by
 obtain⟨a0,a1,a2,a3,a4,a5,a,b,h⟩:=rF hc;unfold dJ jk C.Cpu.r;rw[h];rfl
theorem PI.new(R:RS m B nr nw cr cw I T){W:u}{c:C.Cpu}{s:σ}(a:I W s)(hc:c.ok){cs:Array π}(e:cs=dJ c (fw nr cr) (fw nw cw) 0){p:Nat}(hp:p=W.heap.size):PI B nr nw cr cw I T (W.alloc (χ cs 270)) p ⟨c,s,0⟩:=by
 subst hp;subst e;exact⟨R.kept a (stA (aR W) _),R.out a (ψ _),R.big a,aM W _,hc⟩
theorem zev(b:Nat):∀(vs:List π) (o:Nat) (w:u) (k:Nat),k≠b->(w.setCells b o vs).heap[k]?=w.heap[k]?
 | [],o,w,k,h=>rfl
 | v::vs,o,w,k,h=>(zev b vs (o+1) _ k h).trans (cF _ _ _ _ h)
theorem setCells_size(b:Nat):∀(vs:List π) (o:Nat) (w:u),(w.setCells b o vs).heap.size=w.heap.size
 | [],o,w=>rfl
 | v::vs,o,w=>(setCells_size b vs (o+1) _).trans (wo _ _ _)
theorem cutB{P:Program}{b:Func}{R:Ending->u->Prop}{e:Exit}{a:Act}{w:u}(K:u->Prop)(h:K w)(k:∀ w',K w'->bodyPost P b R e a w'):bodyPost P b R e a w:=k w h
theorem PM.gone{w W w1:u}{p:Nat}{s s':σ}(h:PM B T p s s' W w1)(hb:Below w.heap.size w W)(hB:B<=w.heap.size)(hp:w.heap.size<=p)(b:¬ Tw T w1 s' p):Mv B (Tw T w s) (Tw T w1 s') w w1 :=
 ⟨(hb.mono hB).trans h.below,λk a c=>(h.block k (Θ a hb.size) (λe=>e.elim (λx=>by omega) (λy=>c (y.same (hb.block k a))))).trans (hb.block k a),λk a=>by
   rcases h.fresh k (Or.inr a) with(x|x)|x
   ·subst x;exact absurd a b
   ·exact x.low hb
   ·exact Or.inr (ax hb.size x)⟩
abbrev ku(c:C.Cpu):List π:=[J Y (c.r 0),J Y (c.r 1),J Y (c.r 2),J Y (c.r 3),J Y (c.r 4),J Y (c.r 5),J Y (c.r 6),J Y (c.r 7),J Y c.PC,ν c.Z,ν c.N,ν c.C,ν c.V,ν c.May,ν c.Waits]
theorem zlv(W:u)(q:Nat)(c:C.Cpu):(((((((((((((((W.setCell ⟨q,0,G⟩ (J Y (c.r 0))).setCell ⟨q,1,G⟩ (J Y (c.r 1))).setCell ⟨q,2,G⟩ (J Y (c.r 2))).setCell ⟨q,3,G⟩ (J Y (c.r 3))).setCell ⟨q,4,G⟩ (J Y (c.r 4))).setCell ⟨q,5,G⟩ (J Y (c.r 5))).setCell ⟨q,6,G⟩ (J Y (c.r 6))).setCell ⟨q,7,G⟩ (J Y (c.r 7))).setCell ⟨q,8,G⟩ (J Y c.PC)).setCell ⟨q,9,G⟩ (ν c.Z)).setCell ⟨q,10,G⟩ (ν c.N)).setCell ⟨q,11,G⟩ (ν c.C)).setCell ⟨q,12,G⟩ (ν c.V)).setCell ⟨q,13,G⟩ (ν c.May)).setCell ⟨q,14,G⟩ (ν c.Waits))=W.setCells q 0 (ku c):=by simp only[World.setCells,aX,Nat.reduceAdd]
theorem qz(W:u)(o:Obj)(b i:Nat)(cs:Array π){t:aJ}(h:b=W.heap.size):((W.alloc (χ cs t)).alloc o).cell? ⟨b,i,G⟩=cs[i]?:=by
 subst h;rw[aN _ _ _ (by simp)];exact ly _ _ _ _ D
theorem qzf(W:u)(o:Obj)(b i:Nat)(cs:Array π){t:aJ}(h:b=W.heap.size):((W.alloc (χ cs t)).alloc o).frozen? ⟨b,i,G⟩=ξ:=by
 subst h;exact(gt (w:=W.alloc (χ cs t)) (bJ _ _ (by simp))).trans (Lib.frozen_of_heap (aM W _) i)
abbrev yh(y:C.St σ)(X:u)(p:Nat):Prop:=X.cell? ⟨p,0,G⟩=A (J Y (y.c.r 0))/\X.cell? ⟨p,1,G⟩=A (J Y (y.c.r 1))/\X.cell? ⟨p,2,G⟩=A (J Y (y.c.r 2))/\X.cell? ⟨p,3,G⟩=A (J Y (y.c.r 3))/\X.cell? ⟨p,4,G⟩=A (J Y (y.c.r 4))/\X.cell? ⟨p,5,G⟩=A (J Y (y.c.r 5))/\X.cell? ⟨p,6,G⟩=A (J Y (y.c.r 6))/\X.cell? ⟨p,7,G⟩=A (J Y (y.c.r 7))/\X.cell? ⟨p,8,G⟩=A (J Y y.c.PC)/\X.cell? ⟨p,9,G⟩=A (ν y.c.Z)/\X.cell? ⟨p,10,G⟩=A (ν y.c.N)/\X.cell? ⟨p,11,G⟩=A (ν y.c.C)/\X.cell? ⟨p,12,G⟩=A (ν y.c.V)/\X.cell? ⟨p,13,G⟩=A (ν y.c.May)/\X.cell? ⟨p,14,G⟩=A (ν y.c.Waits)/\X.cell? ⟨p,17,G⟩=A (J Q y.n)
theorem vE(X:u)(p:Nat)(y:C.St σ)(h:yh y X p):yh y X.drew p:=h
theorem zew(c:C.Cpu):(ku c).toArray.all (·.oneCell')=Γ:=by simp[ku,Value.oneCell']
theorem pO:(Tryz.prog.info? 25).map (·.size)=A 15:=by kernel_rfl
theorem zfP(W:u)(q:Nat)(c:C.Cpu)(h:W.rangeAt q 0 (ku c)):(loadVar 25 ⟨q,0,G⟩).run ω W=.ok (jY c) W :=
 run_loadVar_mid W q 0 25 (ku c) _ h underlying25 rfl pO
theorem endK(R:RS m B nr nw cr cw I T){w w1:u}{s s':σ}{q:Nat}(L:List π)(i:I w1 s')(d:Mv B (Tw T w s) (Tw T w1 s') w w1)(j:¬ Tw T w1 s' q)(r:w.heap.size<=q)(f:w1.there q 0 L.length)(hB:B<=w.heap.size):I (w1.setCells q 0 L).drew s'/\Mv B (Tw T w s) (Tw T (w1.setCells q 0 L).drew s') w (w1.setCells q 0 L).drew/\(w1.setCells q 0 L).drew.rangeAt q 0 L:=by
 have l:=setCells_size q L 0 w1;have h:=zev q L 0 w1;have hb:=below_setCells (n:=B) (a:=w) (b:=q) (by omega) L 0 w1 d.below;have o:=World.rangeAt_setCells_same w1 q 0 L f;have g:∀ k,Tw T (w1.setCells q 0 L) s' k->Tw T w1 s' k:=λk=>Tw.sets
 generalize w1.setCells q 0 L=X at *;exact⟨R.keep (w':=X.drew) i (cq l.symm) (λk c=>h k (λe=>j (e ▸ c))),⟨hb.drew,λk c p=>(h k (by omega)).trans (d.block k c p),λk c=>d.fresh k (g k c)⟩,o⟩
theorem Tw.third{w:u}{s:σ}{o1 o2 o4:Obj}{cs:Array π}{t:aJ}(h:¬ T s (w.heap.size+1+1))(a:t≠104):¬ Tw T ((((w.alloc o1).alloc o2).alloc (χ cs t)).alloc o4) s (w.heap.size+1+1) :=
 Tw.of h (by
  have e:=aM ((w.alloc o1).alloc o2) (χ cs t);have z:((w.alloc o1).alloc o2).heap.size=w.heap.size+1+1:=by simp
  rw[z] at e;exact(kh _ _ _ (by simp)).trans e) a
theorem zx0(R:RS m B nr nw cr cw I T)(r:Bool)(w:u)(c:C.Cpu)(s:σ)(hc:c.ok)(hfu:4<=m.fuel s)(Z:I w s):Δ ω 113 #[jY c,.agg #[fw nr cr,fw nw cw],ν r] w λe w'=>e=μ (.tuple #[jY (C.step m c s r).c,J Q (C.step m c s r).n])/\I w' (C.step m c s r).s/\Mv B (Tw T w s) (Tw T w' (C.step m c s r).s) w w'/\(C.step m c s r).c.ok:=by
 have l:=hid R;have P:=hid Z;have HC:=hid hc;have HS:=hid (λW p h=>zwf (m:=m) R r W p c s hfu h);clear Z R hc;generalize C.step m c s r=y at HS ⊢;go_enter func113,ntmps113;go_wp2_with (go_at_call 203;refine(HS.out _ _ ?_).mono ?_;(exact PI.new l.out (l.out.kept P.out (stA (stA (stA (aR w) _) _) _)) HC.out (zri c HC.out.1 _ _ _) (by simp));rintro e w1 ⟨rfl,f,g⟩)
 obtain⟨d8,d9,q,z,E,F,H,_,_,L⟩:=f.cells;obtain⟨d0,d1,d2,d3,d4,d5,d6,d7⟩:=f.regs;have dl:=f.lt;have d:=λo=>PM.cell g (k:=w.heap.size+1+1) (by simp) (by omega) (Tw.third (l.out.out P.out (by omega)) (by decide)) o
 have M:=λo=>PM.froz g (k:=w.heap.size+1+1) (by simp) (by omega) (Tw.third (l.out.out P.out (by omega)) (by decide)) o
 have hql:w.heap.size+1+1<w1.heap.size:=by omega
 have N:=hid f;have U:=hid g;clear f g;have hrg:w1.rangeAt (w.heap.size+1+1+1) 0 (ku y.c):=λj v hj=>by
  have hj':j<15:=(ay.1 hj).1;have hc:j=0 \/ j=1 \/ j=2 \/ j=3 \/ j=4 \/ j=5 \/ j=6 \/ j=7 \/ j=8 \/ j=9 \/ j=10 \/ j=11 \/ j=12 \/ j=13 \/ j=14:=by omega
  rcases hc with rfl|rfl|rfl|rfl|rfl|rfl|rfl|rfl|rfl|rfl|rfl|rfl|rfl|rfl|rfl <;> cases hj <;> assumption
 have V:w1.there (w.heap.size+1+1) 0 15:=λj hj=>by
  have hW:∀(W:u) (cs:Array π) (t:aJ) (o:Obj),W.heap.size=w.heap.size+1+1->cs.size=15->(((W.alloc (χ cs t)).alloc o).cell? ⟨w.heap.size+1+1,0+j,G⟩).isSome=Γ/\((W.alloc (χ cs t)).alloc o).frozen? ⟨w.heap.size+1+1,0+j,G⟩=ξ:=λW cs t o hs hc=>by
   have:=World.there_alloc (zge W cs t 15 hc) o j hj
   rwa [hs] at this
  rw[d,M];exact hW _ _ _ _ (by simp) D
 have HK0:yh y w1.drew (w.heap.size+1+1+1):=vE _ (w.heap.size+1+1+1) y ⟨d0,d1,d2,d3,d4,d5,d6,d7,d8,d9,q,z,E,F,H,L⟩;have X:∀ W:u,(yh y W (w.heap.size+1+1+1))->(yh y (W.setCells (w.heap.size+1+1) 0 (ku y.c)) (w.heap.size+1+1+1)):=λW ⟨e0,e1,e2,e3,e4,e5,e6,e7,e8,e9,e10,e11,e12,e13,e14,e17⟩=>by
  have b:∀(i:Nat) (θ:π),W.cell? ⟨w.heap.size+1+1+1,i,G⟩=A θ->(W.setCells (w.heap.size+1+1) 0 (ku y.c)).cell? ⟨w.heap.size+1+1+1,i,G⟩=A θ:=λi θ h=>(l7 _ _ _ _ _ (λe=>by simp at e)).trans h
  exact⟨b _ _ e0,b _ _ e1,b _ _ e2,b _ _ e3,b _ _ e4,b _ _ e5,b _ _ e6,b _ _ e7,b _ _ e8,b _ _ e9,b _ _ e10,b _ _ e11,b _ _ e12,b _ _ e13,b _ _ e14,b _ _ e17⟩
 have HK2:yh y (w1.setCells (w.heap.size+1+1) 0 (ku y.c)).drew (w.heap.size+1+1+1):=vE _ (w.heap.size+1+1+1) y (X w1 ⟨d0,d1,d2,d3,d4,d5,d6,d7,d8,d9,q,z,E,F,H,L⟩);have z0:w1.cell? ⟨w.heap.size+1+1,0,G⟩=A (J Y 0):=(d 0).trans (qz _ _ _ _ _ (by simp));have z1:w1.cell? ⟨w.heap.size+1+1,1,G⟩=A (J Y 0):=(d 1).trans (qz _ _ _ _ _ (by simp));have z2:w1.cell? ⟨w.heap.size+1+1,2,G⟩=A (J Y 0):=(d 2).trans (qz _ _ _ _ _ (by simp));have z3:w1.cell? ⟨w.heap.size+1+1,3,G⟩=A (J Y 0):=(d 3).trans (qz _ _ _ _ _ (by simp));have z4:w1.cell? ⟨w.heap.size+1+1,4,G⟩=A (J Y 0):=(d 4).trans (qz _ _ _ _ _ (by simp));have z5:w1.cell? ⟨w.heap.size+1+1,5,G⟩=A (J Y 0):=(d 5).trans (qz _ _ _ _ _ (by simp));have z6:w1.cell? ⟨w.heap.size+1+1,6,G⟩=A (J Y 0):=(d 6).trans (qz _ _ _ _ _ (by simp));have z7:w1.cell? ⟨w.heap.size+1+1,7,G⟩=A (J Y 0):=(d 7).trans (qz _ _ _ _ _ (by simp));have z8:w1.cell? ⟨w.heap.size+1+1,8,G⟩=A (J Y 0):=(d 8).trans (qz _ _ _ _ _ (by simp))
 have z9:w1.cell? ⟨w.heap.size+1+1,9,G⟩=A (ν ξ):=(d 9).trans (qz _ _ _ _ _ (by simp));have z10:w1.cell? ⟨w.heap.size+1+1,10,G⟩=A (ν ξ):=(d 10).trans (qz _ _ _ _ _ (by simp));have z11:w1.cell? ⟨w.heap.size+1+1,11,G⟩=A (ν ξ):=(d 11).trans (qz _ _ _ _ _ (by simp));have z12:w1.cell? ⟨w.heap.size+1+1,12,G⟩=A (ν ξ):=(d 12).trans (qz _ _ _ _ _ (by simp));have z13:w1.cell? ⟨w.heap.size+1+1,13,G⟩=A (ν ξ):=(d 13).trans (qz _ _ _ _ _ (by simp));have z14:w1.cell? ⟨w.heap.size+1+1,14,G⟩=A (ν ξ):=(d 14).trans (qz _ _ _ _ _ (by simp));have zf:∀ o,w1.frozen? ⟨w.heap.size+1+1,o,G⟩=ξ:=λo=>(M o).trans (qzf _ _ _ _ _ (by simp))
 have HTH:=hid V;clear X;clear d0 d1 d2 d3 d4 d5 d6 d7 d8 d9 q z E F H L hrg V d M;go_region_held3 (λw'=>yh y w' (w.heap.size+1+1+1))
  (first|with_reducible exact HK0|(rw[zlv];with_reducible exact HK2))
  (fail)
 go_wp2;have hT:¬ Tw T w1 y.s (w.heap.size+1+1):=λht=>by
  rcases U.out.fresh _ (Or.inr ht) with(x|x)|x
  ·omega
  ·exact Tw.third (l.out.out P.out (by omega)) (by decide) x
  ·simp at x
   omega
 have h0:=PM.gone U.out (w:=w) (stA (stA (stA (stA (aR w) _) _) _) _) (l.out.big P.out) (by omega) N.out.ownW;have hB:=l.out.big P.out;rw[zlv];refine cutB (λW=>I W y.s/\Mv B (Tw T w s) (Tw T W y.s) w W/\W.rangeAt (w.heap.size+1+1) 0 (ku y.c)) (endK l.out (ku y.c) N.out.inv h0 hT (by omega) HTH.out hB) ?_;rintro W ⟨Z,hm,hr⟩;have hl:=zfP W _ y.c hr;exact Ξ (v:=.tuple #[jY y.c,J Q y.n]) (by simp only[results,results113];simp;show (Result.andThen (Sem.run ω (loadVar 25 ⟨w.heap.size+1+1,0,G⟩) W) λa w'=>Result.ok (Value.tuple #[a,J IntKind.i64 y.n]) w')=_;rw[hl];rfl) D ⟨D,Z,hm,N.out.ok⟩
end
def yq(z n c v m:Bool)(k:Nat):Bool:=[z,n,c,v,m].getD k ξ
def yr(k:Nat):Int:=[1,2,4,8,16].getD k 0
def tM(z n c v m:Bool):Nat->Int
 | 0=>0
 | k+1=>tM z n c v m k+(if yq z n c v m k then yr k else 0)
theorem zA5(z n c v m:Bool)(k:Nat)(a:k<5):0<=tM z n c v m k/\tM z n c v m k<=31:=by
 have h:k=0 \/ k=1 \/ k=2 \/ k=3 \/ k=4:=by omega
 rcases h with rfl|rfl|rfl|rfl|rfl <;> cases z <;> cases n <;> cases c <;> cases v <;> cases m <;> decide
theorem zwG(a0 a1 a2 a3 a4 a5 o q PC:Int)(z n c v m w0:Bool)(w:u):Δ ω 141 #[.agg #[J Y a0,J Y a1,J Y a2,J Y a3,J Y a4,J Y a5,J Y o,J Y q,J Y PC,ν z,ν n,ν c,ν v,ν m,ν w0]] w λe w'=>e=μ (J Y (tM z n c v m 5))/\Below w.heap.size w w':=by
 go_enter func141,ntmps141;go_wp2;refine cutW (λW=>Below w.heap.size w W/\w.heap.size+1<W.heap.size /\ ∀ j,W.cell? ⟨w.heap.size+1,j,G⟩=(#[ν z,J Y 1,ν n,J Y 2,ν c,J Y 4,ν v,J Y 8,ν m,J Y 16]:Array π)[j]?) ⟨stA (stA (aR w) _) _,by simp,λj=>ly _ _ _ _ (by simp)⟩ ?_;rintro W ⟨f,g,l⟩;have r:=hid f;have s:=hid l;clear f l;go_loopw [3,23] (λa i wr=>∃ k:Nat,k<=5/\a=J Y (tM z n c v m k)/\i=J Q k/\Below W.heap.size W wr) (λ_ i _=>5-(aU i).toNat)
 case atStart=>exact⟨0,by omega,D,D,bq _ _⟩
 case round =>
  obtain⟨k,B,rfl,rfl,hb⟩:=hrel;by_cases t:k<5
  ·have x:=zA5 z n c v m k t
   have b:∀ j,wr.cell? ⟨w.heap.size+1,j,G⟩=(#[ν z,J Y 1,ν n,J Y 2,ν c,J Y 4,ν v,J Y 8,ν m,J Y 16]:Array π)[j]?:=λj=>(hb.cell (p:=⟨w.heap.size+1,j,G⟩) g).trans (s.out j)
   have y:=Θ g hb.size;have d:=hid hb;clear hb;have h:k=0 \/ k=1 \/ k=2 \/ k=3 \/ k=4:=by omega
   rcases h with rfl|rfl|rfl|rfl|rfl
   ·have c0:wr.cell? ⟨w.heap.size+1,0,G⟩=A (ν z):=b 0
    have c1:wr.cell? ⟨w.heap.size+1,1,G⟩=A (J Y 1):=b 1;clear b;cases z;all_goals
     go_wp2;exact⟨⟨1,by omega,by simp[tM,yq,yr],D,stA d.out _⟩,by simp[aU]⟩
   ·have c0:wr.cell? ⟨w.heap.size+1,2,G⟩=A (ν n):=b 2
    have c1:wr.cell? ⟨w.heap.size+1,3,G⟩=A (J Y 2):=b 3;clear b;cases n;all_goals
     go_wp2;exact⟨⟨2,by omega,by simp[tM,yq,yr],D,stA d.out _⟩,by simp[aU]⟩
   ·have c0:wr.cell? ⟨w.heap.size+1,4,G⟩=A (ν c):=b 4
    have c1:wr.cell? ⟨w.heap.size+1,5,G⟩=A (J Y 4):=b 5;clear b;cases c;all_goals
     go_wp2;exact⟨⟨3,by omega,by simp[tM,yq,yr],D,stA d.out _⟩,by simp[aU]⟩
   ·have c0:wr.cell? ⟨w.heap.size+1,6,G⟩=A (ν v):=b 6
    have c1:wr.cell? ⟨w.heap.size+1,7,G⟩=A (J Y 8):=b 7;clear b;cases v;all_goals
     go_wp2;exact⟨⟨4,by omega,by simp[tM,yq,yr],D,stA d.out _⟩,by simp[aU]⟩
   ·have c0:wr.cell? ⟨w.heap.size+1,8,G⟩=A (ν m):=b 8
    have c1:wr.cell? ⟨w.heap.size+1,9,G⟩=A (J Y 16):=b 9;clear b;cases m;all_goals
     go_wp2;exact⟨⟨5,by omega,by simp[tM,yq,yr],D,stA d.out _⟩,by simp[aU]⟩
  ·obtain rfl:k=5:=by omega
   have d:=hid hb;clear hb;go_wp2;go_ret;exact⟨D,bw r.out d.out⟩
theorem zwH(c:C.Cpu):tM c.Z c.N c.C c.V c.May 5=C.sign c:=by
 unfold C.sign;simp[tM,yq,yr]
theorem ztV(c:C.Cpu)(w:u):Δ ω 141 #[jY c] w λe w'=>e=μ (J Y (C.sign c))/\Below w.heap.size w w':=by
 rw[<- zwH];exact zwG _ _ _ _ _ _ _ _ _ _ _ _ _ _ _ w
theorem AZ(m:List UInt8)(v:π)(g o c:Nat)(t x y:Nat)(w:u)(h:Mm w m v g o c)(d:t<16)(f:x<4)(i:y<4):Δ ω 135 #[v,J Q t,J Q x,J Q y] w λe w'=>e=μ (J Q (td m t x y))/\Below w.heap.size w w':=by
 obtain⟨rfl,j,k,hc⟩:=h;have h1:=hc (16+t*4+y) (by omega);have hb:=jJ m (16+t*4+y);have a:td m t x y=gb m (16+t*4+y)/4 ^ (3-x)%4:=by unfold td;rw[show 16+4*(t%16)+y=16+t*4+y by omega]
 rw[a];clear hc a;have b:x=0 \/ x=1 \/ x=2 \/ x=3:=by omega
 have w1:IntKind.i64.wrap ((t:Int)*4)=(t:Int)*4:=by rw[aH];omega
 have w2:IntKind.i64.wrap (16+(t:Int)*4)=16+(t:Int)*4:=by rw[aH];omega
 have l:IntKind.i64.wrap (16+(t:Int)*4+y)=16+(t:Int)*4+y:=by rw[aH];omega
 have n:(0:Int)<=16+(t:Int)*4+y:=by omega
 have p:16+(t:Int)*4+(y:Int)<256:=by omega
 have q:(16+(t:Int)*4+(y:Int)).toNat=16+t*4+y:=by omega
 have g1:=AO m (16+t*4+y);generalize r:gb m (16+t*4+y)=ε at *;rcases b with rfl|rfl|rfl|rfl
 ·go_enter func135,ntmps135
  go_wp2;go_region
  all_goals
   go_wp2;go_ret;refine⟨qE (congrArg (J Q) ?_),(stA (aR w) _).drew⟩;omega
 ·go_enter func135,ntmps135
  go_wp2;go_region
  all_goals
   go_wp2;go_ret;refine⟨qE (congrArg (J Q) ?_),(stA (aR w) _).drew⟩;omega
 ·go_enter func135,ntmps135
  go_wp2;go_region
  all_goals
   go_wp2;go_ret;refine⟨qE (congrArg (J Q) ?_),(stA (aR w) _).drew⟩;omega
 ·go_enter func135,ntmps135
  go_wp2;go_region
  all_goals
   go_wp2;go_ret;refine⟨qE (congrArg (J Q) ?_),(stA (aR w) _).drew⟩;omega
def ta(m:List UInt8)(k y:Nat):Int:=if ru m y k then (y:Int)-(lnS m k:Nat) else -1
theorem zqn(m:List UInt8)(v:π)(g o c:Nat)(k y:Nat)(w:u)(h:Mm w m v g o c)(r:k<8)(s:y<8):Δ ω 136 #[v,J Q k,J Q y] w λe w'=>e=μ (J Q (ta m k y))/\w=w':=by
 obtain⟨rfl,t,x,hc⟩:=h;have h1:=hc (128+4*k) (by omega);have hb:=jJ m (128+4*k);have a:lnS m k=gb m (128+4*k):=D;obtain⟨ε,f⟩:∃ ε,ε=gb m (128+4*k):=⟨_,D⟩
 rw[<- f] at h1 hb a;have l:=hid a;clear hc f a;go_enter func136,ntmps136;go_wp2
 go_loop [8] (λi=>∃ j:Nat,j<=4/\i=J Q j/\Hid (¬ (ε<=y/\y<ε+j))) (λi=>4-(aU i).toNat)
 case atStart=>exact⟨0,bh _,D,(λh=>by omega:¬ (ε<=y/\y<ε+0))⟩
 case round =>
  obtain⟨j,z,rfl,n⟩:=hrel;by_cases h4:j<4
  ·have p:(j:Int)<4:=by omega
   by_cases e:ε+j=y
   ·have q:((ε:Int)+j == (y:Int))=Γ:=by simp;omega
    have b:Hid (ta m k y=(j:Int)):=by
     unfold ta ru;rw[l.out,am (aO (by omega))];show (y:Int)-(ε:Nat)=j;omega
    clear e;go_wp2;go_ret;rw[b.out];exact⟨D,D⟩
   ·have q:((ε:Int)+j == (y:Int))=ξ:=by simp;omega
    have d:Hid (¬ (ε<=y/\y<ε+(j+1))):=(λh=>n.out ⟨h.1,by omega⟩:¬ (ε<=y/\y<ε+(j+1)))
    clear e;go_wp2
    go_round
    case rel=>exact⟨j+1,h4,by go_num,d⟩
    case measure=>simp[aU];omega
  ·have B:¬ (j:Int)<4:=by omega
   have e4:j=4:=by omega
   subst e4;have b:Hid (ta m k y = -1):=by
    unfold ta ru;rw[l.out,aG n.out];rfl
   go_wp2;go_ret;rw[b.out];exact⟨D,D⟩
theorem zoq(m:List UInt8)(v:π)(g o c:Nat)(y:Nat)(w:u)(h:Mm w m v g o c)(E:y<8):Δ ω 134 #[v,J Q y] w λe w'=>∃ s,e=μ s/\w'.ownsRow w.heap.size 3 1 s (kq m y 8).length (ics (kq m y 8))/\Below w.heap.size w w':=by
 have H:=hid h;clear h;go_enter func134,ntmps134;go_wp2;go_loopw [5,7] (λs i wr=>∃ j:Nat,j<=8/\i=J Q j/\wr.ownsRow w.heap.size 3 1 s (kq m y j).length (ics (kq m y j))/\Below w.heap.size w wr) (λ_ i _=>8-(aU i).toNat)
 case atStart=>exact⟨0,bh _,D,⟨D,Or.inl ⟨D,D⟩⟩,aR w⟩
 case round =>
  obtain⟨j,N,rfl,a,k⟩:=hrel;have n:=hid a;have f:=hid k;obtain⟨sa,P,rfl⟩:=zj3 a;clear a k;by_cases p:j<8
  ·have F:(j:Int)<8:=by omega
   have B:=hid (λW I=>zqn m v g o c j y W I p E);cases b:ru m y j with
   | false =>
    have q:Hid (kq m y (j+1)=kq m y j):=by rw[AM,b];rfl
    have r:Hid (ta m j y = -1):=by unfold ta;rw[b];rfl
    clear b;go_wp2_with (go_at_call 136;refine(B.out _ (H.out.kept f.out)).mono ?_;rw[r.out];rintro e w1 ⟨rfl,rfl⟩)
    go_round
    case rel=>exact⟨j+1,p,by go_num,by rw[q.out];exact n.out,f.out⟩
    case measure=>simp[aU];omega
   | true =>
    have q:Hid (kq m y (j+1)=kq m y j++[j]):=by rw[AM,b];rfl
    have l:(kq m y j).length<=50000:=by
     have:(kq m y j).length<=j:=by unfold kq;exact ax (iL _ _) (by simp)
     omega
    have t:=hid l;obtain⟨R,x⟩:∃ R:Int,R=ta m j y:=⟨_,D⟩
    have L:0<=R:=by
     rw[x];unfold ta;rw[am b];unfold ru at b;have:=du b;omega
    have r:=hid x;clear b l x;go_wp2_with (first
     | (go_at_call 136;refine(B.out _ (H.out.kept f.out)).mono ?_;rw[<- r.out];rintro e w1 ⟨rfl,rfl⟩)
     | (at_builtin;refine xR (by rfl) _ _ (by rfl) w.heap.size _ (kq m y j) (by rfl) (xt n.out (stA (aR wr) _)) wr.heap.size 1 j j (by rfl) (Pl.new _ _ _ _ D) D t.out (ax f.out.size (by simp)) ?_;intro v' w' d z))
    go_round
    case rel=>exact⟨j+1,p,by go_num,by rw[q.out];exact d,(stA f.out _).trans z⟩
    case measure=>simp[aU];omega
  ·have T:¬ (j:Int)<8:=by omega
   have M:j=8:=by omega
   subst M;go_wp2;go_ret;exact⟨_,D,n.out,f.out⟩
end Go.Proofs.YthghjlinhokimaaGreatDoor
