/-
  Parts of a proof, joined.
-/
import Derived.Test.YthghjlinhokimaaGreatDoorZcA
import Derived.Test.YthghjlinhokimaaGreatDoorZc13
import Derived.Test.YthghjlinhokimaaGreatDoorZc16
set_option linter.all false
set_option maxRecDepth 100000
set_option maxHeartbeats 3200000
namespace Go.Proofs.YthghjlinhokimaaGreatDoor
open Go.ChangeShapes Go.WideShapes Go.ChangeAt Go.RowKit Go.Proofs.Tryz
section
variable {σ : Type} {m : C.Mem σ} {B nr nw : Nat} {cr cw : Array Value × Array Value} {I : World -> σ -> Prop} {T : σ -> Nat -> Prop}
theorem zoE(c:C.Cpu)(hc:c.R.length=8)(fr fw:Value)(n:Int):(#[.int .u16 (c.r 0),.int .u16 (c.r 1),.int .u16 (c.r 2),.int .u16 (c.r 3),.int .u16 (c.r 4),.int .u16 (c.r 5),.int .u16 (c.r 6),.int .u16 (c.r 7),.int .u16 c.PC,.bool c.Z,.bool c.N,.bool c.C,.bool c.V,.bool c.May,.bool c.Waits,fr,fw,.int .i64 n]:Array Value)=cj c fr fw n:=by
 obtain⟨a0,a1,a2,a3,a4,a5,a,b,h⟩:=mO hc;unfold cj fC C.Cpu.r;rw[h];rfl
theorem PI.new(R:RS m B nr nw cr cw I T){W:World}{c:C.Cpu}{s:σ}(a:I W s)(hc:c.ok){cs:Array Value}(e:cs=cj c (fw nr cr) (fw nw cw) 0){p:Nat}(hp:p=W.heap.size):PI B nr nw cr cw I T (W.alloc (.cells cs 270)) p ⟨c,s,0⟩:=by
 subst hp;subst e;exact⟨R.kept a (stA (J W) _),R.out a (ak _),R.big a,aJ W _,hc⟩
theorem zd1(b:Nat):∀(vs:List Value) (o:Nat) (w:World) (k:Nat),k≠b->(w.setCells b o vs).heap[k]?=w.heap[k]?
 | [],o,w,k,h=>rfl
 | v::vs,o,w,k,h=>(zd1 b vs (o+1) _ k h).trans (bL _ _ _ _ h)
theorem setCells_size(b:Nat):∀(vs:List Value) (o:Nat) (w:World),(w.setCells b o vs).heap.size=w.heap.size
 | [],o,w=>rfl
 | v::vs,o,w=>(setCells_size b vs (o+1) _).trans (pQ _ _ _)
theorem cutB{P:Program}{b:Func}{R:Ending->World->Prop}{e:Exit}{a:Act}{w:World}(K:World->Prop)(h:K w)(k:∀ w',K w'->bodyPost P b R e a w'):bodyPost P b R e a w:=k w h
theorem PM.gone{w W w1:World}{p:Nat}{s s':σ}(h:PM B T p s s' W w1)(hb:Below w.heap.size w W)(hB:B<=w.heap.size)(hp:w.heap.size<=p)(b:¬ Tw T w1 s' p):Mv B (Tw T w s) (Tw T w1 s') w w1 :=
 ⟨(hb.mono hB).trans h.below,λk a c=>(h.block k (ap a hb.size) (λe=>e.elim (λx=>by omega) (λy=>c (y.same (hb.block k a))))).trans (hb.block k a),λk a=>by
   rcases h.fresh k (Or.inr a) with(x|x)|x
   ·subst x;exact absurd a b
   ·exact x.low hb
   ·exact Or.inr (ax hb.size x)⟩
abbrev gO(c:C.Cpu):List Value:=[.int .u16 (c.r 0),.int .u16 (c.r 1),.int .u16 (c.r 2),.int .u16 (c.r 3),.int .u16 (c.r 4),.int .u16 (c.r 5),.int .u16 (c.r 6),.int .u16 (c.r 7),.int .u16 c.PC,.bool c.Z,.bool c.N,.bool c.C,.bool c.V,.bool c.May,.bool c.Waits]
theorem zjI(W:World)(q:Nat)(c:C.Cpu):(((((((((((((((W.setCell ⟨q,0,none⟩ (.int .u16 (c.r 0))).setCell ⟨q,1,none⟩ (.int .u16 (c.r 1))).setCell ⟨q,2,none⟩ (.int .u16 (c.r 2))).setCell ⟨q,3,none⟩ (.int .u16 (c.r 3))).setCell ⟨q,4,none⟩ (.int .u16 (c.r 4))).setCell ⟨q,5,none⟩ (.int .u16 (c.r 5))).setCell ⟨q,6,none⟩ (.int .u16 (c.r 6))).setCell ⟨q,7,none⟩ (.int .u16 (c.r 7))).setCell ⟨q,8,none⟩ (.int .u16 c.PC)).setCell ⟨q,9,none⟩ (.bool c.Z)).setCell ⟨q,10,none⟩ (.bool c.N)).setCell ⟨q,11,none⟩ (.bool c.C)).setCell ⟨q,12,none⟩ (.bool c.V)).setCell ⟨q,13,none⟩ (.bool c.May)).setCell ⟨q,14,none⟩ (.bool c.Waits))=W.setCells q 0 (gO c):=by simp only[World.setCells,aN,Nat.reduceAdd]
theorem qz(W:World)(o:Obj)(b i:Nat)(cs:Array Value){t:TypeId}(h:b=W.heap.size):((W.alloc (.cells cs t)).alloc o).cell? ⟨b,i,none⟩=cs[i]?:=by
 subst h;rw[aK _ _ _ (by simp)];exact jb _ _ _ _ U
theorem qzf(W:World)(o:Obj)(b i:Nat)(cs:Array Value){t:TypeId}(h:b=W.heap.size):((W.alloc (.cells cs t)).alloc o).frozen? ⟨b,i,none⟩=false:=by
 subst h;exact(dC (w:=W.alloc (.cells cs t)) (bO _ _ (by simp))).trans (Lib.frozen_of_heap (aJ W _) i)
abbrev rm(y:C.St σ)(X:World)(p:Nat):Prop:=X.cell? ⟨p,0,none⟩=some (.int .u16 (y.c.r 0))/\X.cell? ⟨p,1,none⟩=some (.int .u16 (y.c.r 1))/\X.cell? ⟨p,2,none⟩=some (.int .u16 (y.c.r 2))/\X.cell? ⟨p,3,none⟩=some (.int .u16 (y.c.r 3))/\X.cell? ⟨p,4,none⟩=some (.int .u16 (y.c.r 4))/\X.cell? ⟨p,5,none⟩=some (.int .u16 (y.c.r 5))/\X.cell? ⟨p,6,none⟩=some (.int .u16 (y.c.r 6))/\X.cell? ⟨p,7,none⟩=some (.int .u16 (y.c.r 7))/\X.cell? ⟨p,8,none⟩=some (.int .u16 y.c.PC)/\X.cell? ⟨p,9,none⟩=some (.bool y.c.Z)/\X.cell? ⟨p,10,none⟩=some (.bool y.c.N)/\X.cell? ⟨p,11,none⟩=some (.bool y.c.C)/\X.cell? ⟨p,12,none⟩=some (.bool y.c.V)/\X.cell? ⟨p,13,none⟩=some (.bool y.c.May)/\X.cell? ⟨p,14,none⟩=some (.bool y.c.Waits)/\X.cell? ⟨p,17,none⟩=some (.int .i64 y.n)
theorem pg(X:World)(p:Nat)(y:C.St σ)(h:rm y X p):rm y X.drew p:=h
theorem zd2(c:C.Cpu):(gO c).toArray.all (·.oneCell')=true:=by simp[gO,Value.oneCell']
theorem lV:(Tryz.prog.info? 25).map (·.size)=some 15:=by kernel_rfl
theorem zfa(W:World)(q:Nat)(c:C.Cpu)(h:W.rangeAt q 0 (gO c)):(loadVar 25 ⟨q,0,none⟩).run prog W=.ok (gx c) W :=
 run_loadVar_mid W q 0 25 (gO c) _ h underlying25 rfl lV
theorem endK(R:RS m B nr nw cr cw I T){w w1:World}{s s':σ}{q:Nat}(L:List Value)(i:I w1 s')(d:Mv B (Tw T w s) (Tw T w1 s') w w1)(j:¬ Tw T w1 s' q)(r:w.heap.size<=q)(f:w1.there q 0 L.length)(hB:B<=w.heap.size):I (w1.setCells q 0 L).drew s'/\Mv B (Tw T w s) (Tw T (w1.setCells q 0 L).drew s') w (w1.setCells q 0 L).drew/\(w1.setCells q 0 L).drew.rangeAt q 0 L:=by
 have l:=setCells_size q L 0 w1;have h:=zd1 q L 0 w1;have hb:=below_setCells (n:=B) (a:=w) (b:=q) (by omega) L 0 w1 d.below;have o:=World.rangeAt_setCells_same w1 q 0 L f;have g:∀ k,Tw T (w1.setCells q 0 L) s' k->Tw T w1 s' k:=λk=>Tw.sets
 generalize w1.setCells q 0 L=X at *;exact⟨R.keep (w':=X.drew) i (bA l.symm) (λk c=>h k (λe=>j (e ▸ c))),⟨hb.drew,λk c p=>(h k (by omega)).trans (d.block k c p),λk c=>d.fresh k (g k c)⟩,o⟩
theorem Tw.third{w:World}{s:σ}{o1 o2 a:Obj}{cs:Array Value}{t:TypeId}(h:¬ T s (w.heap.size+1+1))(b:t≠104):¬ Tw T ((((w.alloc o1).alloc o2).alloc (.cells cs t)).alloc a) s (w.heap.size+1+1) :=
 Tw.of h (by
  have e:=aJ ((w.alloc o1).alloc o2) (.cells cs t);have z:((w.alloc o1).alloc o2).heap.size=w.heap.size+1+1:=by simp
  rw[z] at e;exact(gJ _ _ _ (by simp)).trans e) b
theorem zu4(R:RS m B nr nw cr cw I T)(r:Bool)(w:World)(c:C.Cpu)(s:σ)(hc:c.ok)(hfu:4<=m.fuel s)(Z:I w s):Calls prog 113 #[gx c,.agg #[fw nr cr,fw nw cw],.bool r] w λe w'=>e=.returned (.tuple #[gx (C.step m c s r).c,.int .i64 (C.step m c s r).n])/\I w' (C.step m c s r).s/\Mv B (Tw T w s) (Tw T w' (C.step m c s r).s) w w'/\(C.step m c s r).c.ok:=by
 have l:=hid R;have P:=hid Z;have HC:=hid hc;have HS:=hid (λW p h=>ztq (m:=m) R r W p c s hfu h);clear Z R hc;generalize C.step m c s r=y at HS ⊢;go_enter func113,ntmps113;go_wp2_with (go_at_call 203;refine(HS.out _ _ ?_).mono ?_;(exact PI.new l.out (l.out.kept P.out (stA (stA (stA (J w) _) _) _)) HC.out (zoE c HC.out.1 _ _ _) (by simp));rintro e w1 ⟨rfl,f,g⟩)
 obtain⟨d8,d9,q,z,E,F,H,_,_,L⟩:=f.cells;obtain⟨d0,d1,d2,d3,d4,d5,d6,d7⟩:=f.regs;have dl:=f.lt;have d:=λo=>PM.cell g (k:=w.heap.size+1+1) (by simp) (by omega) (Tw.third (l.out.out P.out (by omega)) (by decide)) o
 have M:=λo=>PM.froz g (k:=w.heap.size+1+1) (by simp) (by omega) (Tw.third (l.out.out P.out (by omega)) (by decide)) o
 have hql:w.heap.size+1+1<w1.heap.size:=by omega
 have N:=hid f;have V:=hid g;clear f g;have hrg:w1.rangeAt (w.heap.size+1+1+1) 0 (gO y.c):=λj v hj=>by
  have hj':j<15:=(aA.1 hj).1;have hc:j=0 \/ j=1 \/ j=2 \/ j=3 \/ j=4 \/ j=5 \/ j=6 \/ j=7 \/ j=8 \/ j=9 \/ j=10 \/ j=11 \/ j=12 \/ j=13 \/ j=14:=by omega
  rcases hc with rfl|rfl|rfl|rfl|rfl|rfl|rfl|rfl|rfl|rfl|rfl|rfl|rfl|rfl|rfl <;> cases hj <;> assumption
 have X:w1.there (w.heap.size+1+1) 0 15:=λj hj=>by
  have hW:∀(W:World) (cs:Array Value) (t:TypeId) (o:Obj),W.heap.size=w.heap.size+1+1->cs.size=15->(((W.alloc (.cells cs t)).alloc o).cell? ⟨w.heap.size+1+1,0+j,none⟩).isSome=true/\((W.alloc (.cells cs t)).alloc o).frozen? ⟨w.heap.size+1+1,0+j,none⟩=false:=λW cs t o hs hc=>by
   have:=World.there_alloc (zfz W cs t 15 hc) o j hj
   rwa [hs] at this
  rw[d,M];exact hW _ _ _ _ (by simp) U
 have HK0:rm y w1.drew (w.heap.size+1+1+1):=pg _ (w.heap.size+1+1+1) y ⟨d0,d1,d2,d3,d4,d5,d6,d7,d8,d9,q,z,E,F,H,L⟩;have Y:∀ W:World,(rm y W (w.heap.size+1+1+1))->(rm y (W.setCells (w.heap.size+1+1) 0 (gO y.c)) (w.heap.size+1+1+1)):=λW ⟨e0,e1,e2,e3,e4,e5,e6,e7,e8,e9,e10,e11,e12,e13,e14,e17⟩=>by
  have b:∀(i:Nat) (u:Value),W.cell? ⟨w.heap.size+1+1+1,i,none⟩=some u->(W.setCells (w.heap.size+1+1) 0 (gO y.c)).cell? ⟨w.heap.size+1+1+1,i,none⟩=some u:=λi u h=>(iZ _ _ _ _ _ (λe=>by simp at e)).trans h
  exact⟨b _ _ e0,b _ _ e1,b _ _ e2,b _ _ e3,b _ _ e4,b _ _ e5,b _ _ e6,b _ _ e7,b _ _ e8,b _ _ e9,b _ _ e10,b _ _ e11,b _ _ e12,b _ _ e13,b _ _ e14,b _ _ e17⟩
 have HK2:rm y (w1.setCells (w.heap.size+1+1) 0 (gO y.c)).drew (w.heap.size+1+1+1):=pg _ (w.heap.size+1+1+1) y (Y w1 ⟨d0,d1,d2,d3,d4,d5,d6,d7,d8,d9,q,z,E,F,H,L⟩);have z0:w1.cell? ⟨w.heap.size+1+1,0,none⟩=some (.int .u16 0):=(d 0).trans (qz _ _ _ _ _ (by simp));have z1:w1.cell? ⟨w.heap.size+1+1,1,none⟩=some (.int .u16 0):=(d 1).trans (qz _ _ _ _ _ (by simp));have z2:w1.cell? ⟨w.heap.size+1+1,2,none⟩=some (.int .u16 0):=(d 2).trans (qz _ _ _ _ _ (by simp));have z3:w1.cell? ⟨w.heap.size+1+1,3,none⟩=some (.int .u16 0):=(d 3).trans (qz _ _ _ _ _ (by simp));have z4:w1.cell? ⟨w.heap.size+1+1,4,none⟩=some (.int .u16 0):=(d 4).trans (qz _ _ _ _ _ (by simp));have z5:w1.cell? ⟨w.heap.size+1+1,5,none⟩=some (.int .u16 0):=(d 5).trans (qz _ _ _ _ _ (by simp));have z6:w1.cell? ⟨w.heap.size+1+1,6,none⟩=some (.int .u16 0):=(d 6).trans (qz _ _ _ _ _ (by simp));have z7:w1.cell? ⟨w.heap.size+1+1,7,none⟩=some (.int .u16 0):=(d 7).trans (qz _ _ _ _ _ (by simp))
 have z8:w1.cell? ⟨w.heap.size+1+1,8,none⟩=some (.int .u16 0):=(d 8).trans (qz _ _ _ _ _ (by simp));have z9:w1.cell? ⟨w.heap.size+1+1,9,none⟩=some (.bool false):=(d 9).trans (qz _ _ _ _ _ (by simp));have z10:w1.cell? ⟨w.heap.size+1+1,10,none⟩=some (.bool false):=(d 10).trans (qz _ _ _ _ _ (by simp));have z11:w1.cell? ⟨w.heap.size+1+1,11,none⟩=some (.bool false):=(d 11).trans (qz _ _ _ _ _ (by simp));have z12:w1.cell? ⟨w.heap.size+1+1,12,none⟩=some (.bool false):=(d 12).trans (qz _ _ _ _ _ (by simp));have z13:w1.cell? ⟨w.heap.size+1+1,13,none⟩=some (.bool false):=(d 13).trans (qz _ _ _ _ _ (by simp));have z14:w1.cell? ⟨w.heap.size+1+1,14,none⟩=some (.bool false):=(d 14).trans (qz _ _ _ _ _ (by simp));have zf:∀ o,w1.frozen? ⟨w.heap.size+1+1,o,none⟩=false:=λo=>(M o).trans (qzf _ _ _ _ _ (by simp))
 have HTH:=hid X;clear Y;clear d0 d1 d2 d3 d4 d5 d6 d7 d8 d9 q z E F H L hrg X d M;go_region_held3 (λw'=>rm y w' (w.heap.size+1+1+1))
  (first|with_reducible exact HK0|(rw[zjI];with_reducible exact HK2))
  (fail)
 go_wp2;have hT:¬ Tw T w1 y.s (w.heap.size+1+1):=λht=>by
  rcases V.out.fresh _ (Or.inr ht) with(x|x)|x
  ·omega
  ·exact Tw.third (l.out.out P.out (by omega)) (by decide) x
  ·simp at x
   omega
 have h0:=PM.gone V.out (w:=w) (stA (stA (stA (stA (J w) _) _) _) _) (l.out.big P.out) (by omega) N.out.ownW;have hB:=l.out.big P.out;rw[zjI];refine cutB (λW=>I W y.s/\Mv B (Tw T w s) (Tw T W y.s) w W/\W.rangeAt (w.heap.size+1+1) 0 (gO y.c)) (endK l.out (gO y.c) N.out.inv h0 hT (by omega) HTH.out hB) ?_;rintro W ⟨Z,hm,hr⟩;have hl:=zfa W _ y.c hr;exact ao (v:=.tuple #[gx y.c,.int .i64 y.n]) (by simp only[results,results113];simp;show (Result.andThen (Sem.run prog (loadVar 25 ⟨w.heap.size+1+1,0,none⟩) W) λa w'=>Result.ok (Value.tuple #[a,Value.int IntKind.i64 y.n]) w')=_;rw[hl];rfl) U ⟨U,Z,hm,N.out.ok⟩
end
def rv(z n c v m:Bool)(k:Nat):Bool:=[z,n,c,v,m].getD k false
def rx(k:Nat):Int:=[1,2,4,8,16].getD k 0
def ox(z n c v m:Bool):Nat->Int
 | 0=>0
 | k+1=>ox z n c v m k+(if rv z n c v m k then rx k else 0)
theorem zxZ(z n c v m:Bool)(k:Nat)(a:k<5):0<=ox z n c v m k/\ox z n c v m k<=31:=by
 have h:k=0 \/ k=1 \/ k=2 \/ k=3 \/ k=4:=by omega
 rcases h with rfl|rfl|rfl|rfl|rfl <;> cases z <;> cases n <;> cases c <;> cases v <;> cases m <;> decide
theorem ztR(a0 a1 a2 a3 a4 a5 o q PC:Int)(z n c v m w0:Bool)(w:World):Calls prog 141 #[.agg #[.int .u16 a0,.int .u16 a1,.int .u16 a2,.int .u16 a3,.int .u16 a4,.int .u16 a5,.int .u16 o,.int .u16 q,.int .u16 PC,.bool z,.bool n,.bool c,.bool v,.bool m,.bool w0]] w λe w'=>e=.returned (.int .u16 (ox z n c v m 5))/\Below w.heap.size w w':=by
 go_enter func141,ntmps141;go_wp2;refine cutW (λW=>Below w.heap.size w W/\w.heap.size+1<W.heap.size /\ ∀ j,W.cell? ⟨w.heap.size+1,j,none⟩=(#[.bool z,.int .u16 1,.bool n,.int .u16 2,.bool c,.int .u16 4,.bool v,.int .u16 8,.bool m,.int .u16 16]:Array Value)[j]?) ⟨stA (stA (J w) _) _,by simp,λj=>jb _ _ _ _ (by simp)⟩ ?_;rintro W ⟨f,g,l⟩;have r:=hid f;have s:=hid l;clear f l;go_loopw [3,23] (λa i wr=>∃ k:Nat,k<=5/\a=.int .u16 (ox z n c v m k)/\i=.int .i64 k/\Below W.heap.size W wr) (λ_ i _=>5-(intOf i).toNat)
 case atStart=>exact⟨0,by omega,U,U,aW _ _⟩
 case round =>
  obtain⟨k,y,rfl,rfl,hb⟩:=hrel;by_cases t:k<5
  ·have u:=zxZ z n c v m k t
   have b:∀ j,wr.cell? ⟨w.heap.size+1,j,none⟩=(#[.bool z,.int .u16 1,.bool n,.int .u16 2,.bool c,.int .u16 4,.bool v,.int .u16 8,.bool m,.int .u16 16]:Array Value)[j]?:=λj=>(hb.cell (p:=⟨w.heap.size+1,j,none⟩) g).trans (s.out j)
   have x:=ap g hb.size;have d:=hid hb;clear hb;have h:k=0 \/ k=1 \/ k=2 \/ k=3 \/ k=4:=by omega
   rcases h with rfl|rfl|rfl|rfl|rfl
   ·have c0:wr.cell? ⟨w.heap.size+1,0,none⟩=some (.bool z):=b 0
    have c1:wr.cell? ⟨w.heap.size+1,1,none⟩=some (.int .u16 1):=b 1;clear b;cases z;all_goals
     go_wp2;exact⟨⟨1,by omega,by simp[ox,rv,rx],U,stA d.out _⟩,by simp[intOf]⟩
   ·have c0:wr.cell? ⟨w.heap.size+1,2,none⟩=some (.bool n):=b 2
    have c1:wr.cell? ⟨w.heap.size+1,3,none⟩=some (.int .u16 2):=b 3;clear b;cases n;all_goals
     go_wp2;exact⟨⟨2,by omega,by simp[ox,rv,rx],U,stA d.out _⟩,by simp[intOf]⟩
   ·have c0:wr.cell? ⟨w.heap.size+1,4,none⟩=some (.bool c):=b 4
    have c1:wr.cell? ⟨w.heap.size+1,5,none⟩=some (.int .u16 4):=b 5;clear b;cases c;all_goals
     go_wp2;exact⟨⟨3,by omega,by simp[ox,rv,rx],U,stA d.out _⟩,by simp[intOf]⟩
   ·have c0:wr.cell? ⟨w.heap.size+1,6,none⟩=some (.bool v):=b 6
    have c1:wr.cell? ⟨w.heap.size+1,7,none⟩=some (.int .u16 8):=b 7;clear b;cases v;all_goals
     go_wp2;exact⟨⟨4,by omega,by simp[ox,rv,rx],U,stA d.out _⟩,by simp[intOf]⟩
   ·have c0:wr.cell? ⟨w.heap.size+1,8,none⟩=some (.bool m):=b 8
    have c1:wr.cell? ⟨w.heap.size+1,9,none⟩=some (.int .u16 16):=b 9;clear b;cases m;all_goals
     go_wp2;exact⟨⟨5,by omega,by simp[ox,rv,rx],U,stA d.out _⟩,by simp[intOf]⟩
  ·obtain rfl:k=5:=by omega
   have d:=hid hb;clear hb;go_wp2;go_ret;exact⟨U,bn r.out d.out⟩
theorem ztS(c:C.Cpu):ox c.Z c.N c.C c.V c.May 5=C.sign c:=by
 unfold C.sign;simp[ox,rv,rx]
theorem zrj(c:C.Cpu)(w:World):Calls prog 141 #[gx c] w λe w'=>e=.returned (.int .u16 (C.sign c))/\Below w.heap.size w w':=by
 rw[<- ztS];exact ztR _ _ _ _ _ _ _ _ _ _ _ _ _ _ _ w
theorem vm(m:List UInt8)(v:Value)(g o c:Nat)(t x y:Nat)(w:World)(h:Mm w m v g o c)(d:t<16)(f:x<4)(i:y<4):Calls prog 135 #[v,.int .i64 t,.int .i64 x,.int .i64 y] w λe w'=>e=.returned (.int .i64 (td m t x y))/\Below w.heap.size w w':=by
 obtain⟨rfl,j,k,hc⟩:=h;have h1:=hc (16+t*4+y) (by omega);have hb:=f8 m (16+t*4+y);have a:td m t x y=gb m (16+t*4+y)/4 ^ (3-x)%4:=by unfold td;rw[show 16+4*(t%16)+y=16+t*4+y by omega]
 rw[a];clear hc a;have b:x=0 \/ x=1 \/ x=2 \/ x=3:=by omega
 have w1:IntKind.i64.wrap ((t:Int)*4)=(t:Int)*4:=by rw[aI];omega
 have w2:IntKind.i64.wrap (16+(t:Int)*4)=16+(t:Int)*4:=by rw[aI];omega
 have l:IntKind.i64.wrap (16+(t:Int)*4+y)=16+(t:Int)*4+y:=by rw[aI];omega
 have n:(0:Int)<=16+(t:Int)*4+y:=by omega
 have p:16+(t:Int)*4+(y:Int)<256:=by omega
 have q:(16+(t:Int)*4+(y:Int)).toNat=16+t*4+y:=by omega
 have g1:=tZ m (16+t*4+y);generalize r:gb m (16+t*4+y)=ag at *;rcases b with rfl|rfl|rfl|rfl
 ·go_enter func135,ntmps135
  go_wp2;go_region
  all_goals
   go_wp2;go_ret;refine⟨lY (congrArg (Value.int .i64) ?_),(stA (J w) _).drew⟩;omega
 ·go_enter func135,ntmps135
  go_wp2;go_region
  all_goals
   go_wp2;go_ret;refine⟨lY (congrArg (Value.int .i64) ?_),(stA (J w) _).drew⟩;omega
 ·go_enter func135,ntmps135
  go_wp2;go_region
  all_goals
   go_wp2;go_ret;refine⟨lY (congrArg (Value.int .i64) ?_),(stA (J w) _).drew⟩;omega
 ·go_enter func135,ntmps135
  go_wp2;go_region
  all_goals
   go_wp2;go_ret;refine⟨lY (congrArg (Value.int .i64) ?_),(stA (J w) _).drew⟩;omega
def nZ(m:List UInt8)(k y:Nat):Int:=if mG m y k then (y:Int)-(lnS m k:Nat) else -1
theorem znN(m:List UInt8)(v:Value)(g o c:Nat)(k y:Nat)(w:World)(h:Mm w m v g o c)(r:k<8)(s:y<8):Calls prog 136 #[v,.int .i64 k,.int .i64 y] w λe w'=>e=.returned (.int .i64 (nZ m k y))/\w=w':=by
 obtain⟨rfl,t,u,hc⟩:=h;have h1:=hc (128+4*k) (by omega);have hb:=f8 m (128+4*k);have a:lnS m k=gb m (128+4*k):=U;obtain⟨ag,f⟩:∃ ag,ag=gb m (128+4*k):=⟨_,U⟩
 rw[<- f] at h1 hb a;have l:=hid a;clear hc f a;go_enter func136,ntmps136;go_wp2
 go_loop [8] (λi=>∃ j:Nat,j<=4/\i=.int .i64 j/\Hid (¬ (ag<=y/\y<ag+j))) (λi=>4-(intOf i).toNat)
 case atStart=>exact⟨0,aU _,U,(λh=>by omega:¬ (ag<=y/\y<ag+0))⟩
 case round =>
  obtain⟨j,x,rfl,n⟩:=hrel;by_cases h4:j<4
  ·have p:(j:Int)<4:=by omega
   by_cases e:ag+j=y
   ·have q:((ag:Int)+j == (y:Int))=true:=by simp;omega
    have b:Hid (nZ m k y=(j:Int)):=by
     unfold nZ mG;rw[l.out,Q (aL (by omega))];show (y:Int)-(ag:Nat)=j;omega
    clear e;go_wp2;go_ret;rw[b.out];exact⟨U,U⟩
   ·have q:((ag:Int)+j == (y:Int))=false:=by simp;omega
    have d:Hid (¬ (ag<=y/\y<ag+(j+1))):=(λh=>n.out ⟨h.1,by omega⟩:¬ (ag<=y/\y<ag+(j+1)))
    clear e;go_wp2
    go_round
    case rel=>exact⟨j+1,h4,by go_num,d⟩
    case measure=>simp[intOf];omega
  ·have z:¬ (j:Int)<4:=by omega
   have e4:j=4:=by omega
   subst e4;have b:Hid (nZ m k y = -1):=by
    unfold nZ mG;rw[l.out,aF n.out];rfl
   go_wp2;go_ret;rw[b.out];exact⟨U,U⟩
theorem zmh(m:List UInt8)(v:Value)(g o c:Nat)(y:Nat)(w:World)(h:Mm w m v g o c)(B:y<8):Calls prog 134 #[v,.int .i64 y] w λe w'=>∃ s,e=.returned s/\w'.ownsRow w.heap.size 3 1 s (gM m y 8).length (ics (gM m y 8))/\Below w.heap.size w w':=by
 have H:=hid h;clear h;go_enter func134,ntmps134;go_wp2;go_loopw [5,7] (λs i wr=>∃ j:Nat,j<=8/\i=.int .i64 j/\wr.ownsRow w.heap.size 3 1 s (gM m y j).length (ics (gM m y j))/\Below w.heap.size w wr) (λ_ i _=>8-(intOf i).toNat)
 case atStart=>exact⟨0,aU _,U,⟨U,Or.inl ⟨U,U⟩⟩,J w⟩
 case round =>
  obtain⟨j,M,rfl,a,k⟩:=hrel;have n:=hid a;have f:=hid k;obtain⟨sa,N,rfl⟩:=ziE a;clear a k;by_cases p:j<8
  ·have E:(j:Int)<8:=by omega
   have z:=hid (λW F=>znN m v g o c j y W F p B);cases b:mG m y j with
   | false =>
    have q:Hid (gM m y (j+1)=gM m y j):=by rw[tX,b];rfl
    have r:Hid (nZ m j y = -1):=by unfold nZ;rw[b];rfl
    clear b;go_wp2_with (go_at_call 136;refine(z.out _ (H.out.kept f.out)).mono ?_;rw[r.out];rintro e w1 ⟨rfl,rfl⟩)
    go_round
    case rel=>exact⟨j+1,p,by go_num,by rw[q.out];exact n.out,f.out⟩
    case measure=>simp[intOf];omega
   | true =>
    have q:Hid (gM m y (j+1)=gM m y j++[j]):=by rw[tX,b];rfl
    have l:(gM m y j).length<=50000:=by
     have:(gM m y j).length<=j:=by unfold gM;exact ax (eT _ _) (by simp)
     omega
    have t:=hid l;obtain⟨R,u⟩:∃ R:Int,R=nZ m j y:=⟨_,U⟩
    have I:0<=R:=by
     rw[u];unfold nZ;rw[Q b];unfold mG at b;have:=cF b;omega
    have r:=hid u;clear b l u;go_wp2_with (first
     | (go_at_call 136;refine(z.out _ (H.out.kept f.out)).mono ?_;rw[<- r.out];rintro e w1 ⟨rfl,rfl⟩)
     | (at_builtin;refine qR (by rfl) _ _ (by rfl) w.heap.size _ (gM m y j) (by rfl) (qv n.out (stA (J wr) _)) wr.heap.size 1 j j (by rfl) (Pl.new _ _ _ _ U) U t.out (ax f.out.size (by simp)) ?_;intro v' w' d x))
    go_round
    case rel=>exact⟨j+1,p,by go_num,by rw[q.out];exact d,(stA f.out _).trans x⟩
    case measure=>simp[intOf];omega
  ·have P:¬ (j:Int)<8:=by omega
   have L:j=8:=by omega
   subst L;go_wp2;go_ret;exact⟨_,U,n.out,f.out⟩
end Go.Proofs.YthghjlinhokimaaGreatDoor
