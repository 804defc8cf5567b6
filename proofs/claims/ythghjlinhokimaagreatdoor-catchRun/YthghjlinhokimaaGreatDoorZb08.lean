/-
  Parts of a proof, joined.
-/
import Derived.Test.YthghjlinhokimaaGreatDoorZbA
import Derived.Test.YthghjlinhokimaaGreatDoorZb04
set_option linter.all false
set_option maxRecDepth 100000
set_option maxHeartbeats 1600000
open Option renaming none->G,some->A
open Go renaming World->u,Value->π,Calls->Δ,loadVar->bC
open Bool renaming false->ξ,true->Γ
open Go.Proofs.Tryz renaming prog->ω
open Go.World renaming setCells->lr
open Go.Value renaming int->J,bool->ν,tuple->Ψ,string->Ω,agg->ac
open Go.IntKind renaming i64->Q,u16->Y
open Go.Ending renaming returned->μ
open Go.Obj renaming cells->χ
namespace Go.Proofs.YthghjlinhokimaaGreatDoor
open Go.ChangeShapes Go.WideShapes Go.ChangeAt Go.RowKit Go.Proofs.Tryz
/-! ### plain numbers -/
def lC(l a n:Int):Int:=(l*64+a+n)%640/64
def kA(l a n:Int):Int:=(l*64+a+n)%64
def pd(l a:Int)(g:Bool)(n:Int):Bool:=g || decide ((l*64+a+128)/640<(l*64+a+n+128)/640)
def lS(l a f n:Int):Int:=f+(l*64+a+n)/640
structure BOk (l a f : Int) : Prop where
 l0:0<=l
 l1:l<=9
 a0:0<=a
 a1:a<=63
 f0:0<=f
 f1:f<=20000
def pL(l a f:Int):Bool:=decide (0<=l/\l<=9/\0<=a/\a<=63/\0<=f/\f<=20000)
theorem qo(l a f:Int):pL l a f=Γ ↔ BOk l a f:=by
 unfold pL;rw[cu];exact⟨λ⟨h1,h2,h3,h4,b,c⟩=>⟨h1,h2,h3,h4,b,c⟩,λ⟨h1,h2,h3,h4,b,c⟩=>⟨h1,h2,h3,h4,b,c⟩⟩
def tL(l a:Int):Int:=if a=63 then (if l=9 then 0 else l+1) else l
def tA(a:Int):Int:=if a=63 then 0 else a+1
def tG(l a:Int)(g:Bool):Bool:=if a=63/\l=7 then Γ else g
def tF(l a f:Int):Int:=if a=63/\l=9 then f+1 else f
theorem zsV(l a f:Int)(g:Bool)(b:0<=l/\l<=9)(c:0<=a/\a<=63):lC l a 0=l/\kA l a 0=a/\pd l a g 0=g/\lS l a f 0=f:=by
 unfold lC kA pd lS;refine⟨by omega,by omega,?_,by omega⟩;rw[Int.add_zero,aG (Int.lt_irrefl _),oc]
theorem BR(l a n:Int)(b:0<=l/\l<=9)(c:0<=a/\a<=63)(d:0<=n):(0<=lC l a n/\lC l a n<=9)/\(0<=kA l a n/\kA l a n<=63):=by
 unfold lC kA;omega
theorem zAu(l a n:Int)(b:0<=l/\l<=9)(c:0<=a/\a<=63)(d:0<=n):lC l a n*64+kA l a n=(l*64+a+n)%640:=by
 unfold lC kA;omega
theorem zAv(g:Bool)(p q r:Prop)[Decidable p][Decidable q][Decidable r](h:(p \/ q) ↔ r):((g || decide p) || decide q)=(g || decide r):=by
 rw[Bool.or_assoc];congr 1;rw[<- Bool.decide_or];exact dW.2 h
theorem zxX(l a f n m:Int)(g:Bool)(b:0<=l/\l<=9)(c:0<=a/\a<=63)(d:0<=n)(e:0<=m):lC (lC l a n) (kA l a n) m=lC l a (n+m)/\kA (lC l a n) (kA l a n) m=kA l a (n+m)/\pd (lC l a n) (kA l a n) (pd l a g n) m=pd l a g (n+m)/\lS (lC l a n) (kA l a n) (lS l a f n) m=lS l a f (n+m):=by
 have hp:=zAu l a n b c d;have h:kA l a n=(l*64+a+n)%640%64:=by unfold kA;omega
 refine⟨?_,?_,?_,?_⟩
 ·unfold lC at hp ⊢
  rw[hp];omega
 ·unfold kA lC at hp ⊢
  rw[hp];omega
 ·unfold pd
  rw[hp];exact zAv g _ _ _ (by omega)
 ·unfold lS
  rw[hp];omega
theorem zAw(l a f:Int)(g:Bool)(b:0<=l/\l<=9)(c:0<=a/\a<=63):lC l a 1=tL l a/\kA l a 1=tA a/\pd l a g 1=tG l a g/\lS l a f 1=tF l a f:=by
 unfold lC kA pd lS tL tA tG tF;refine⟨by split <;> (try split) <;> omega,by split <;> omega,?_,by split <;> omega⟩;split
 ·rw[aO (by omega),Bool.or_true]
 ·rw[aG (by omega),oc]
/-! ### the package -/
theorem zer:(Tryz.prog.info? 38).map (·.size)=A 4:=by kernel_rfl
theorem zes(W:u)(q:Nat)(l a f:Int)(g:Bool)(h:W.rangeAt q 0 [J Q l,J Q a,ν g,J Q f]):(bC 38 ⟨q,0,G⟩).run ω W=.ok (ac #[J Q l,J Q a,ν g,J Q f]) W :=
 run_loadVar_mid W q 0 38 _ _ h underlying38 rfl zer
def tp(n m:Int):Bool:=decide (0<=n) && decide (n<=m)
theorem ze{n m:Int}(a:0<=n)(h1:n<=m):tp n m=Γ:=by unfold tp;simp[a,h1]
theorem zjv{n m:Int}(h:¬ (0<=n/\n<=m)):tp n m=ξ:=by unfold tp;rw[<- mR];exact aG h
theorem yd(n m:Int)(w:u):Δ ω 122 #[J Q n,J Q m] w λe w'=>e=μ (ν (tp n m))/\w=w':=by
 unfold tp;by_cases h:0<=n
 ·go_enter func122,ntmps122
  go_wp2;go_ret;exact⟨sJ (by simp[h]),D⟩
 ·go_enter func122,ntmps122
  go_wp2;go_ret;exact⟨sJ (by simp;omega),D⟩
theorem zga(own:Int)(w:u):Δ ω 123 #[J Q own] w λe w'=>e=μ (.func (.func 205) #[] #[.pointer (A ⟨w.heap.size,0,G⟩)])/\w'=w.alloc (χ #[J Q own] 3):=by
 go_enter func123,ntmps123;go_wp2;go_ret;exact⟨D,D⟩
theorem zcs(own c:Int)(b:Nat)(w:u)(a:0<=own/\own<=640)(hc:0<=c/\c<=30000)(h:w.cell? ⟨b,0,G⟩=A (J Q own))(hb:b<w.heap.size):Δ ω 205 #[J Q c,.pointer (A ⟨b,0,G⟩)] w λe w'=>e=μ (J Q ((c+640-own)/640))/\w=w':=by
 have e1:Int.tdiv (c+640-own) 640=(c+640-own)/640:=aF (by omega);go_enter func205,ntmps205;go_wp2;go_ret;exact⟨by first|rfl|(congr 2;omega),D⟩
theorem At(l a f:Int)(g:Bool)(w:u)(h:BOk l a f):Δ ω 121 #[ac #[J Q l,J Q a,ν g,J Q f]] w λe w'=>e=μ (J Q 0)/\Below w.heap.size w w':=by
 have h1:=ze h.l0 h.l1;have h2:=ze h.a0 h.a1;have h3:=ze h.f0 h.f1;clear h;go_enter func121,ntmps121;go_wp2_with (go_at_call 122;refine(yd _ _ _).mono ?_;rintro e w0 ⟨rfl,rfl⟩)
 go_ret;exact⟨D,stA (aR _) _⟩
theorem zd1(l a f:Int)(g:Bool)(w:u)(h:¬ BOk l a f):Δ ω 121 #[ac #[J Q l,J Q a,ν g,J Q f]] w λe w'=>e=μ (J Q 3)/\Below w.heap.size w w':=by
 by_cases b:0<=l/\l<=9
 ·have h1:=ze b.1 b.2
  by_cases c:0<=a/\a<=63
  ·have h2:=ze c.1 c.2
   have h3:=zjv (n:=f) (m:=20000) λd=>h ⟨b.1,b.2,c.1,c.2,d.1,d.2⟩
   clear h b c;go_enter func121,ntmps121;go_wp2_with (go_at_call 122;refine(yd _ _ _).mono ?_;rintro e w0 ⟨rfl,rfl⟩)
   go_ret;exact⟨D,stA (aR _) _⟩
  ·have h2:=zjv c
   clear h b c;go_enter func121,ntmps121;go_wp2_with (go_at_call 122;refine(yd _ _ _).mono ?_;rintro e w0 ⟨rfl,rfl⟩)
   go_ret;exact⟨D,stA (aR _) _⟩
 ·have h1:=zjv b
  clear h b;go_enter func121,ntmps121;go_wp2_with (go_at_call 122;refine(yd _ _ _).mono ?_;rintro e w0 ⟨rfl,rfl⟩)
  go_ret;exact⟨D,stA (aR _) _⟩
theorem zlp(l a f:Int)(g:Bool)(w:u)(m:0<=l/\l<=9)(n:0<=a/\a<=63)(o:0<=f/\f<=1000000):Δ ω 77 #[ac #[J Q l,J Q a,ν g,J Q f]] w λe w'=>e=μ (ac #[J Q (tL l a),J Q (tA a),ν (tG l a g),J Q (tF l a f)])/\Below w.heap.size w w':=by
 by_cases h:a=63
 ·subst h
  by_cases c:l=9
  ·subst c
   go_enter func77,ntmps77;go_wp2;refine Ξ (v:=.agg _) (by simp[results,results77,go_sem,tL,tA,tG,tF]) D ⟨D,?_⟩;exact(stA (stA (aR _) _) _)
  ·by_cases d:l=7
   ·subst d
    go_enter func77,ntmps77;go_wp2;refine Ξ (v:=.agg _) (by simp[results,results77,go_sem,tL,tA,tG,tF]) D ⟨D,?_⟩;exact(stA (stA (aR _) _) _)
   ·have q1:(l+1 == 8)=ξ:=by simp;omega
    have p:(l+1 == 10)=ξ:=by simp;omega
    have i:tL l 63=l+1:=by simp[tL,c]
    have j:tG l 63 g=g:=by simp[tG,d]
    have k:tF l 63 f=f:=by simp[tF,c]
    have b:=hid (And.intro i (And.intro j k));clear i j k c d;go_enter func77,ntmps77;go_wp2;rw[b.out.1,b.out.2.1,b.out.2.2];refine Ξ (v:=.agg _) (by simp[results,results77,go_sem,tA]) D ⟨D,?_⟩;exact(stA (stA (aR _) _) _)
 ·have q1:(a+1 == 64)=ξ:=by simp;omega
  have b:Hid (tL l a=l/\tA a=a+1/\tG l a g=g/\tF l a f=f):=hid (by simp[tL,tA,tG,tF,h]);clear h;go_enter func77,ntmps77;go_wp2;rw[b.out.1,b.out.2.1,b.out.2.2.1,b.out.2.2.2];refine Ξ (v:=.agg _) (by simp[results,results77,go_sem]) D ⟨D,?_⟩;exact(stA (stA (aR _) _) _)
theorem Pl.res{P:Program}{b o:Nat}{t:TypeId}{ι:u}{v:π}(h:(bC t ⟨b,o,G⟩).run P ι=.ok v ι):((Sem.run P (asAddr (Value.pointer (A ⟨b,o,G⟩))) ι).andThen λa w'=>Sem.run P (bC t a) w')=.ok v ι:=h
/-! ### plain numbers -/
structure TM where
 r:Int
 c:Int
 on:Bool
 g:Bool
def oA(r c:Int)(on:Bool):Int:=if on then (if c=0 then r else c-1) else c
def oR(c:Int)(on g:Bool):Bool:=if on then (if c=0 then Γ else g) else g
/-! ### the package -/
theorem zdy:(Tryz.prog.info? 31).map (·.size)=A 4:=by kernel_rfl
theorem tT(W:u)(q:Nat)(r c:Int)(on g:Bool)(h:W.rangeAt q 0 [J Y r,J Y c,ν on,ν g]):(bC 31 ⟨q,0,G⟩).run ω W=.ok (ac #[J Y r,J Y c,ν on,ν g]) W :=
 run_loadVar_mid W q 0 31 _ _ h underlying31 rfl zdy
theorem zAa(k:Nat)(l:k<32)(g:k≠30)(h:O.mask k=0)(a b:Int)(z:0<=a)(o:a<=65535)(hb:0<=b)(p:b<=65535)(q:a/2048=k)(w:u)(m:br w):Δ ω 271 #[J Y a,J Y b] w λe w'=>e=μ (Ψ #[ac #[J Q k,J Q (0),J Q (0),J Q (0),J Q (0)],J Q 1])/\Below w.heap.size w w':=by
 have f:=sT (Ω (O.nameS k)) (J Q (K.cyc k)) k l;have r:=hid m;have s:=hid h;have n:=hid f;rw[h] at n;clear m h f;go_enter func271,ntmps271;go_wp2_with (first
  | (go_at_call 256;refine(tH k l g _ (pJ r.out _)).mono ?_;rw[s.out];rintro e w1 ⟨rfl,c⟩;obtain⟨t,x⟩:=cj c;have i:w.heap.size<w1.heap.size:=by have:=c.size;simp at this;omega))
 go_region_held3 (λw'=>w'.cell? ⟨w1.heap.size,0,G⟩=A (Ω (O.nameS k))/\w'.cell? ⟨w1.heap.size,1,G⟩=A (J Q (K.cyc k))/\w'.cell? ⟨w1.heap.size,2,G⟩=A (J Q 0)/\w'.cell? ⟨w1.heap.size+1,0,G⟩=A (J Q (k))/\w'.cell? ⟨w1.heap.size+1,1,G⟩=A (J Q (0))/\w'.cell? ⟨w1.heap.size+1,2,G⟩=A (J Q (0))/\w'.cell? ⟨w1.heap.size+1,3,G⟩=A (J Q (0))/\w'.cell? ⟨w1.heap.size+1,4,G⟩=A (J Q (0)))
  (first
    | with_reducible exact nV d
    | with_reducible exact lV i (by assumption)
    | (go_keep;done))
  ((go_at_call 288;refine(n.out _).mono ?_;rintro e w2 ⟨rfl,d⟩;obtain⟨j,y⟩:=lW c d))
 go_wp2;refine Ξ (v:=Ψ #[ac #[J Q k,J Q (0),J Q (0),J Q (0),J Q (0)],J Q 1]) (by simp[results,results271,go_sem,j,lenOf]) D ⟨D,?_⟩;exact(((((bw (stA (stA (bw (stA (aR _) _) c) _) _).drew d).setCell (ψ _) _).setCell (ψ _) _).setCell (ψ _) _).setCell (ψ _) _).setCell (ψ _) _
theorem zAb(k:Nat)(l:k<32)(g:k≠30)(h:O.mask k=1)(a b:Int)(B:0<=a)(o:a<=65535)(hb:0<=b)(p:b<=65535)(q:a/2048=k)(w:u)(m:br w):Δ ω 271 #[J Y a,J Y b] w λe w'=>e=μ (Ψ #[ac #[J Q k,J Q (a/256%8),J Q (0),J Q (0),J Q (0)],J Q 1])/\Below w.heap.size w w':=by
 have f:=sT (Ω (O.nameS k)) (J Q (K.cyc k)) k l;have r:=hid m;have s:=hid h;have n:=hid f;rw[h] at n;have t:=(vJ (a/256) (by omega) (by omega)).1;clear m h f;go_enter func271,ntmps271;go_wp2_with (first
  | (go_at_call 256;refine(tH k l g _ (pJ r.out _)).mono ?_;rw[s.out];rintro e w1 ⟨rfl,c⟩;obtain⟨x,y⟩:=cj c;have i:w.heap.size<w1.heap.size:=by have:=c.size;simp at this;omega))
 clear t;go_region_held3 (λw'=>w'.cell? ⟨w1.heap.size,0,G⟩=A (Ω (O.nameS k))/\w'.cell? ⟨w1.heap.size,1,G⟩=A (J Q (K.cyc k))/\w'.cell? ⟨w1.heap.size,2,G⟩=A (J Q 1)/\w'.cell? ⟨w1.heap.size+1,0,G⟩=A (J Q (k))/\w'.cell? ⟨w1.heap.size+1,1,G⟩=A (J Q (a/256%8))/\w'.cell? ⟨w1.heap.size+1,2,G⟩=A (J Q (0))/\w'.cell? ⟨w1.heap.size+1,3,G⟩=A (J Q (0))/\w'.cell? ⟨w1.heap.size+1,4,G⟩=A (J Q (0)))
  (first
    | with_reducible exact nV d
    | with_reducible exact lV i (by assumption)
    | (go_keep;done))
  ((go_at_call 288;refine(n.out _).mono ?_;rintro e w2 ⟨rfl,d⟩;obtain⟨j,z⟩:=lW c d))
 go_wp2;refine Ξ (v:=Ψ #[ac #[J Q k,J Q (a/256%8),J Q (0),J Q (0),J Q (0)],J Q 1]) (by simp[results,results271,go_sem,j,lenOf]) D ⟨D,?_⟩;exact(((((bw (stA (stA (bw (stA (aR _) _) c) _) _).drew d).setCell (ψ _) _).setCell (ψ _) _).setCell (ψ _) _).setCell (ψ _) _).setCell (ψ _) _
theorem zAc(k:Nat)(l:k<32)(g:k≠30)(h:O.mask k=2)(a b:Int)(B:0<=a)(o:a<=65535)(hb:0<=b)(p:b<=65535)(q:a/2048=k)(w:u)(m:br w):Δ ω 271 #[J Y a,J Y b] w λe w'=>e=μ (Ψ #[ac #[J Q k,J Q (0),J Q (a/32%8),J Q (0),J Q (0)],J Q 1])/\Below w.heap.size w w':=by
 have f:=sT (Ω (O.nameS k)) (J Q (K.cyc k)) k l;have r:=hid m;have s:=hid h;have n:=hid f;rw[h] at n;have t:=(vJ (a/32) (by omega) (by omega)).1;clear m h f;go_enter func271,ntmps271;go_wp2_with (first
  | (go_at_call 256;refine(tH k l g _ (pJ r.out _)).mono ?_;rw[s.out];rintro e w1 ⟨rfl,c⟩;obtain⟨x,y⟩:=cj c;have i:w.heap.size<w1.heap.size:=by have:=c.size;simp at this;omega))
 clear t;go_region_held3 (λw'=>w'.cell? ⟨w1.heap.size,0,G⟩=A (Ω (O.nameS k))/\w'.cell? ⟨w1.heap.size,1,G⟩=A (J Q (K.cyc k))/\w'.cell? ⟨w1.heap.size,2,G⟩=A (J Q 2)/\w'.cell? ⟨w1.heap.size+1,0,G⟩=A (J Q (k))/\w'.cell? ⟨w1.heap.size+1,1,G⟩=A (J Q (0))/\w'.cell? ⟨w1.heap.size+1,2,G⟩=A (J Q (a/32%8))/\w'.cell? ⟨w1.heap.size+1,3,G⟩=A (J Q (0))/\w'.cell? ⟨w1.heap.size+1,4,G⟩=A (J Q (0)))
  (first
    | with_reducible exact nV d
    | with_reducible exact lV i (by assumption)
    | (go_keep;done))
  ((go_at_call 288;refine(n.out _).mono ?_;rintro e w2 ⟨rfl,d⟩;obtain⟨j,z⟩:=lW c d))
 go_wp2;refine Ξ (v:=Ψ #[ac #[J Q k,J Q (0),J Q (a/32%8),J Q (0),J Q (0)],J Q 1]) (by simp[results,results271,go_sem,j,lenOf]) D ⟨D,?_⟩;exact(((((bw (stA (stA (bw (stA (aR _) _) c) _) _).drew d).setCell (ψ _) _).setCell (ψ _) _).setCell (ψ _) _).setCell (ψ _) _).setCell (ψ _) _
theorem zAd(k:Nat)(l:k<32)(g:k≠30)(h:O.mask k=3)(a b:Int)(E:0<=a)(o:a<=65535)(hb:0<=b)(p:b<=65535)(q:a/2048=k)(w:u)(m:br w):Δ ω 271 #[J Y a,J Y b] w λe w'=>e=μ (Ψ #[ac #[J Q k,J Q (a/256%8),J Q (a/32%8),J Q (0),J Q (0)],J Q 1])/\Below w.heap.size w w':=by
 have f:=sT (Ω (O.nameS k)) (J Q (K.cyc k)) k l;have r:=hid m;have s:=hid h;have n:=hid f;rw[h] at n;have t:=(vJ (a/256) (by omega) (by omega)).1;have x:=(vJ (a/32) (by omega) (by omega)).1;clear m h f;go_enter func271,ntmps271;go_wp2_with (first
  | (go_at_call 256;refine(tH k l g _ (pJ r.out _)).mono ?_;rw[s.out];rintro e w1 ⟨rfl,c⟩;obtain⟨y,z⟩:=cj c;have i:w.heap.size<w1.heap.size:=by have:=c.size;simp at this;omega))
 clear t x;go_region_held3 (λw'=>w'.cell? ⟨w1.heap.size,0,G⟩=A (Ω (O.nameS k))/\w'.cell? ⟨w1.heap.size,1,G⟩=A (J Q (K.cyc k))/\w'.cell? ⟨w1.heap.size,2,G⟩=A (J Q 3)/\w'.cell? ⟨w1.heap.size+1,0,G⟩=A (J Q (k))/\w'.cell? ⟨w1.heap.size+1,1,G⟩=A (J Q (a/256%8))/\w'.cell? ⟨w1.heap.size+1,2,G⟩=A (J Q (a/32%8))/\w'.cell? ⟨w1.heap.size+1,3,G⟩=A (J Q (0))/\w'.cell? ⟨w1.heap.size+1,4,G⟩=A (J Q (0)))
  (first
    | with_reducible exact nV d
    | with_reducible exact lV i (by assumption)
    | (go_keep;done))
  ((go_at_call 288;refine(n.out _).mono ?_;rintro e w2 ⟨rfl,d⟩;obtain⟨j,B⟩:=lW c d))
 go_wp2;refine Ξ (v:=Ψ #[ac #[J Q k,J Q (a/256%8),J Q (a/32%8),J Q (0),J Q (0)],J Q 1]) (by simp[results,results271,go_sem,j,lenOf]) D ⟨D,?_⟩;exact(((((bw (stA (stA (bw (stA (aR _) _) c) _) _).drew d).setCell (ψ _) _).setCell (ψ _) _).setCell (ψ _) _).setCell (ψ _) _).setCell (ψ _) _
theorem zAe(k:Nat)(l:k<32)(g:k≠30)(h:O.mask k=5)(a b:Int)(B:0<=a)(o:a<=65535)(hb:0<=b)(p:b<=65535)(q:a/2048=k)(w:u)(m:br w):Δ ω 271 #[J Y a,J Y b] w λe w'=>e=μ (Ψ #[ac #[J Q k,J Q (a/256%8),J Q (0),J Q (M.low a 5),J Q (0)],J Q 1])/\Below w.heap.size w w':=by
 have f:=sT (Ω (O.nameS k)) (J Q (K.cyc k)) k l;have r:=hid m;have s:=hid h;have n:=hid f;rw[h] at n;have t:=(vJ (a/256) (by omega) (by omega)).1;clear m h f;go_enter func271,ntmps271;go_wp2_with (first
  | (go_at_call 256;refine(tH k l g _ (pJ r.out _)).mono ?_;rw[s.out];rintro e w1 ⟨rfl,c⟩;obtain⟨x,y⟩:=cj c;have i:w.heap.size<w1.heap.size:=by have:=c.size;simp at this;omega)
  | (go_at_call 337;refine(zdt _ _ _ (by omega) (by omega) (by omega) (by omega)).mono ?_;rintro e w' ⟨rfl,rfl⟩))
 clear t;go_region_held3 (λw'=>w'.cell? ⟨w1.heap.size,0,G⟩=A (Ω (O.nameS k))/\w'.cell? ⟨w1.heap.size,1,G⟩=A (J Q (K.cyc k))/\w'.cell? ⟨w1.heap.size,2,G⟩=A (J Q 5)/\w'.cell? ⟨w1.heap.size+1,0,G⟩=A (J Q (k))/\w'.cell? ⟨w1.heap.size+1,1,G⟩=A (J Q (a/256%8))/\w'.cell? ⟨w1.heap.size+1,2,G⟩=A (J Q (0))/\w'.cell? ⟨w1.heap.size+1,3,G⟩=A (J Q (M.low a 5))/\w'.cell? ⟨w1.heap.size+1,4,G⟩=A (J Q (0)))
  (first
    | with_reducible exact nV d
    | with_reducible exact lV i (by assumption)
    | (go_keep;done))
  ((go_at_call 288;refine(n.out _).mono ?_;rintro e w2 ⟨rfl,d⟩;obtain⟨j,z⟩:=lW c d))
 go_wp2;refine Ξ (v:=Ψ #[ac #[J Q k,J Q (a/256%8),J Q (0),J Q (M.low a 5),J Q (0)],J Q 1]) (by simp[results,results271,go_sem,j,lenOf]) D ⟨D,?_⟩;exact(((((bw (stA (stA (bw (stA (aR _) _) c) _) _).drew d).setCell (ψ _) _).setCell (ψ _) _).setCell (ψ _) _).setCell (ψ _) _).setCell (ψ _) _
theorem ztD(r c:Int)(g:Bool)(w:u)(hc:0<=c/\c<=65535):Δ ω 116 #[ac #[J Y r,J Y c,ν Γ,ν g]] w λe w'=>e=μ (ac #[J Y r,J Y (oA r c Γ),ν Γ,ν (oR c Γ g)])/\Below w.heap.size w w':=by
 by_cases h:c=0
 ·subst h
  go_enter func116,ntmps116;go_wp2;refine Ξ (v:=.agg _) (by simp[results,results116,go_sem,oA,oR]) D ⟨D,?_⟩;exact(stA (stA (aR _) _) _)
 ·have hb:(c == 0)=ξ:=by simpa using h
  have H:=hid h;clear h;go_enter func116,ntmps116;go_wp2;have e:oA r c Γ=c-1:=by unfold oA;simp[H.out]
  have a:=H.out;have e3:IntKind.u16.wrap (c-1)=c-1:=by rw[bj];omega
  have e2:oR c Γ g=g:=by unfold oR;simp[H.out]
  rw[e,e2];refine Ξ (v:=.agg _) (by simp[results,results116,go_sem,e3]) D ⟨D,?_⟩;exact(stA (stA (aR _) _) _)
theorem zwj(r c:Int)(on g:Bool)(w:u):Δ ω 280 #[ac #[J Y r,J Y c,ν on,ν g]] w λe w'=>e=μ (ac #[J Y r,J Y r,ν on,ν g])/\Below w.heap.size w w':=by
 go_enter func280,ntmps280;go_wp2;refine Ξ (v:=.agg _) (by simp[results,results280,go_sem];try rfl) D ⟨D,?_⟩;exact(stA (stA (aR _) _) _)
theorem mW{w w1:u}{o:Obj}(a:Below ((w.alloc o).alloc (χ #[J Y 0,J Y 0,ν ξ,ν ξ] 31)).heap.size ((w.alloc o).alloc (χ #[J Y 0,J Y 0,ν ξ,ν ξ] 31)) w1):w1.there (w.heap.size+1) 0 4/\Below w.heap.size w w1:=by
 refine⟨zc9 (wT (w.alloc o) #[J Y 0,J Y 0,ν ξ,ν ξ] 31 4 (w.heap.size+1) (by simp) D) a (by simp),bw (stA (stA (aR w) _) _) a⟩
theorem pQ{w U:u}(r c:Int)(on g:Bool)(a:U.there (w.heap.size+1) 0 4)(hB:Below w.heap.size w U):Below w.heap.size w ((((U.setCell ⟨w.heap.size+1,0,G⟩ (J Y r)).setCell ⟨w.heap.size+1,1,G⟩ (J Y c)).setCell ⟨w.heap.size+1,2,G⟩ (ν on)).setCell ⟨w.heap.size+1,3,G⟩ (ν g)) /\
  ((((U.setCell ⟨w.heap.size+1,0,G⟩ (J Y r)).setCell ⟨w.heap.size+1,1,G⟩ (J Y c)).setCell ⟨w.heap.size+1,2,G⟩ (ν on)).setCell ⟨w.heap.size+1,3,G⟩ (ν g)).rangeAt (w.heap.size+1) 0 [J Y r,J Y c,ν on,ν g]:=by
 have h:=World.rangeAt_setCells_same U (w.heap.size+1) 0 [J Y r,J Y c,ν on,ν g] a;have h2:=Pl.below (fH w.heap.size) [J Y r,J Y c,ν on,ν g] 0 U hB;simp only[lr,aX,Nat.reduceAdd] at h h2;exact⟨h2,h⟩
/-! ### whenOn -/
theorem zjF(r c:Int)(g:Bool)(f:π)(w:u):Δ ω 115 #[ac #[J Y r,J Y c,ν ξ,ν g],f] w λe w'=>e=μ (ac #[J Y r,J Y c,ν ξ,ν g])/\Below w.heap.size w w':=by
 go_enter func115,ntmps115;go_wp2;refine Ξ (v:=.agg _) (by simp[results,results115,go_sem]) D ⟨D,?_⟩;exact(stA (stA (aR _) _) _)
theorem ztF(r c:Int)(g:Bool)(w:u)(hc:0<=c/\c<=65535):Δ ω 115 #[ac #[J Y r,J Y c,ν Γ,ν g],.func (.func 116) #[] #[]] w λe w'=>e=μ (ac #[J Y r,J Y (oA r c Γ),ν Γ,ν (oR c Γ g)])/\Below w.heap.size w w':=by
 go_enter func115,ntmps115;go_wp2_with (go_at_call 116;refine(ztD _ _ _ _ hc).mono ?_;rintro e w1 ⟨rfl,a⟩;obtain⟨k1,f1⟩:=cj a;have h:w.heap.size+1<w1.heap.size:=Θ (by simp) a.size)
 have b:=pQ r (oA r c Γ) Γ (oR c Γ g) (mW a).1 (mW a).2;refine Pl.cutB (λι=>Below w.heap.size w ι/\ι.rangeAt (w.heap.size+1) 0 [J Y r,J Y (oA r c Γ),ν Γ,ν (oR c Γ g)]) b ?_;rintro ι ⟨d,f⟩;exact Ξ (v:=.agg _) (by simp only[results,results115];simp;exact Pl.res (tT _ _ _ _ _ _ f)) D ⟨D,d⟩
theorem zwk(r c:Int)(g:Bool)(w:u):Δ ω 115 #[ac #[J Y r,J Y c,ν Γ,ν g],.func (.func 280) #[] #[]] w λe w'=>e=μ (ac #[J Y r,J Y r,ν Γ,ν g])/\Below w.heap.size w w':=by
 go_enter func115,ntmps115;go_wp2_with (go_at_call 280;refine(zwj _ _ _ _ _).mono ?_;rintro e w1 ⟨rfl,a⟩;obtain⟨k1,f1⟩:=cj a;have h:w.heap.size+1<w1.heap.size:=Θ (by simp) a.size)
 have b:=pQ r r Γ g (mW a).1 (mW a).2;refine Pl.cutB (λι=>Below w.heap.size w ι/\ι.rangeAt (w.heap.size+1) 0 [J Y r,J Y r,ν Γ,ν g]) b ?_;rintro ι ⟨d,f⟩;exact Ξ (v:=.agg _) (by simp only[results,results115];simp;exact Pl.res (tT _ _ _ _ _ _ f)) D ⟨D,d⟩
/-! ### Set, Tick, Run -/
theorem znY(r c:Int)(on g:Bool)(w:u)(hc:0<=c/\c<=65535):Δ ω 63 #[ac #[J Y r,J Y c,ν on,ν g]] w λe w'=>e=μ (ac #[J Y r,J Y (oA r c on),ν on,ν (oR c on g)])/\Below w.heap.size w w':=by
 cases on
 ·go_enter func63,ntmps63
  go_wp2_with (go_at_call 115;refine(zjF _ _ _ _ _).mono ?_;rintro e w1 ⟨rfl,a⟩;obtain⟨k1,f1⟩:=cj a;have h:w.heap.size+1<w1.heap.size:=Θ (by simp) a.size)
  have b:=pQ r c ξ g (mW a).1 (mW a).2;refine Pl.cutB (λι=>Below w.heap.size w ι/\ι.rangeAt (w.heap.size+1) 0 [J Y r,J Y c,ν ξ,ν g]) b ?_;rintro ι ⟨d,f⟩;exact Ξ (v:=.agg _) (by simp only[results,results63];simp;exact Pl.res (tT _ _ _ _ _ _ f)) D ⟨D,d⟩
 ·go_enter func63,ntmps63
  go_wp2_with (go_at_call 115;refine(ztF _ _ _ _ hc).mono ?_;rintro e w1 ⟨rfl,a⟩;obtain⟨k1,f1⟩:=cj a;have h:w.heap.size+1<w1.heap.size:=Θ (by simp) a.size)
  have b:=pQ r (oA r c Γ) Γ (oR c Γ g) (mW a).1 (mW a).2;refine Pl.cutB (λι=>Below w.heap.size w ι/\ι.rangeAt (w.heap.size+1) 0 [J Y r,J Y (oA r c Γ),ν Γ,ν (oR c Γ g)]) b ?_;rintro ι ⟨d,f⟩;exact Ξ (v:=.agg _) (by simp only[results,results63];simp;exact Pl.res (tT _ _ _ _ _ _ f)) D ⟨D,d⟩
theorem zjG(r c:Int)(o0 on g:Bool)(w:u):Δ ω 245 #[ac #[J Y r,J Y c,ν o0,ν g],ν on] w λe w'=>e=μ (ac #[J Y r,J Y (ir on r c),ν on,ν g])/\Below w.heap.size w w':=by
 cases on
 ·go_enter func245,ntmps245
  go_wp2_with (go_at_call 115;refine(zjF _ _ _ _ _).mono ?_;rintro e w1 ⟨rfl,a⟩;obtain⟨k1,f1⟩:=cj a;have h:w.heap.size+1<w1.heap.size:=Θ (by simp) a.size)
  have b:=pQ r c ξ g (mW a).1 (mW a).2;refine Pl.cutB (λι=>Below w.heap.size w ι/\ι.rangeAt (w.heap.size+1) 0 [J Y r,J Y c,ν ξ,ν g]) b ?_;rintro ι ⟨d,f⟩;exact Ξ (v:=.agg _) (by simp only[results,results245];simp;exact Pl.res (tT _ _ _ _ _ _ f)) D ⟨D,d⟩
 ·go_enter func245,ntmps245
  go_wp2_with (go_at_call 115;refine(zwk _ _ _ _).mono ?_;rintro e w1 ⟨rfl,a⟩;obtain⟨k1,f1⟩:=cj a;have h:w.heap.size+1<w1.heap.size:=Θ (by simp) a.size)
  have b:=pQ r r Γ g (mW a).1 (mW a).2;refine Pl.cutB (λι=>Below w.heap.size w ι/\ι.rangeAt (w.heap.size+1) 0 [J Y r,J Y r,ν Γ,ν g]) b ?_;rintro ι ⟨d,f⟩;exact Ξ (v:=.agg _) (by simp only[results,results245];simp;exact Pl.res (tT _ _ _ _ _ _ f)) D ⟨D,d⟩
structure Bat (W : u) (b : Nat) (l a : Int) (g : Bool) (f : Int) : Prop where
 z:b<W.heap.size
 c0:W.cell? ⟨b,0,G⟩=A (J Q l)
 c1:W.cell? ⟨b,1,G⟩=A (J Q a)
 c2:W.cell? ⟨b,2,G⟩=A (ν g)
 c3:W.cell? ⟨b,3,G⟩=A (J Q f)
 f:∀ o,W.frozen? ⟨b,o,G⟩=ξ
section
variable {W w1 : u} {b : Nat} {l a f : Int} {g : Bool}
theorem Bat.kept(h:Bat W b l a g f)(hb:Below W.heap.size W w1):Bat w1 b l a g f :=
 ⟨Θ h.z hb.size,(hb.cell (p:=⟨b,0,G⟩) h.z).trans h.c0,(hb.cell (p:=⟨b,1,G⟩) h.z).trans h.c1,(hb.cell (p:=⟨b,2,G⟩) h.z).trans h.c2,(hb.cell (p:=⟨b,3,G⟩) h.z).trans h.c3,λo=>(hb.frozen (p:=⟨b,o,G⟩) h.z).trans (h.f o)⟩
theorem Bat.over(h:Bat W b l a g f)(o:Obj):Bat (W.alloc o) b l a g f:=h.kept (stA (aR W) o)
theorem Bat.new(W:u)(l a:Int)(g:Bool)(f:Int):Bat (W.alloc (χ #[J Q l,J Q a,ν g,J Q f] 38)) W.heap.size l a g f :=
 ⟨by simp,Pl.new _ _ _ _ D,Pl.new _ _ _ _ D,Pl.new _ _ _ _ D,Pl.new _ _ _ _ D,λo=>Lib.frozen_of_heap (aM W _) o⟩
theorem Bat.far(h:Bat W b l a g f){b' o':Nat}(c:b'≠b)(v:π):Bat (W.setCell ⟨b',o',G⟩ v) b l a g f:=by
 have e:∀ o,(W.setCell ⟨b',o',G⟩ v).cell? ⟨b,o,G⟩=W.cell? ⟨b,o,G⟩:=λo=>World.cell?_setCell_far W _ _ v c
 exact⟨by simpa using h.z,(e 0).trans h.c0,(e 1).trans h.c1,(e 2).trans h.c2,(e 3).trans h.c3,λo=>by simpa using h.f o⟩
theorem Bat.put2(h:Bat W b l a g f)(g':Bool):Bat (W.setCell ⟨b,2,G⟩ (ν g')) b l a g' f:=by
 have e:∀ o,o≠2->(W.setCell ⟨b,2,G⟩ (ν g')).cell? ⟨b,o,G⟩=W.cell? ⟨b,o,G⟩:=λo c=>ap _ _ _ _ (by intro e;exact c (congrArg Addr.off e).symm)
 exact⟨by simpa using h.z,(e 0 (by omega)).trans h.c0,(e 1 (by omega)).trans h.c1,jd _ _ _ (by rw[h.c2];rfl),(e 3 (by omega)).trans h.c3,λo=>by simpa using h.f o⟩
theorem Bat.drew(h:Bat W b l a g f):Bat W.drew b l a g f:=⟨h.z,h.c0,h.c1,h.c2,h.c3,h.f⟩
theorem Bat.range(h:Bat W b l a g f):W.rangeAt b 0 [J Q l,J Q a,ν g,J Q f]:=λj v c=>by
 rw[aX]
 match j,c with
 | 0,c=>rw[h.c0];simpa using c
 | 1,c=>rw[h.c1];simpa using c
 | 2,c=>rw[h.c2];simpa using c
 | 3,c=>rw[h.c3];simpa using c
theorem Bat.puts(h:Bat W b l a g f)(d e:Int)(g':Bool)(i:Int):Bat ((((W.setCell ⟨b,0,G⟩ (J Q d)).setCell ⟨b,1,G⟩ (J Q e)).setCell ⟨b,2,G⟩ (ν g')).setCell ⟨b,3,G⟩ (J Q i)) b d e g' i:=by
 have k:W.there b 0 4:=λj m=>by
  refine⟨?_,h.f _⟩;rw[aX]
  match j,m with
  | 0,_=>rw[h.c0];rfl
  | 1,_=>rw[h.c1];rfl
  | 2,_=>rw[h.c2];rfl
  | 3,_=>rw[h.c3];rfl
 have c:=World.rangeAt_setCells_same W b 0 [J Q d,J Q e,ν g',J Q i] k;simp only[lr,aX,Nat.reduceAdd] at c;exact⟨by simpa using h.z,c 0 _ D,c 1 _ D,c 2 _ D,c 3 _ D,λo=>by simpa using h.f o⟩
theorem Bat.below(h:Bat W b l a g f){w:u}(hB:Below w.heap.size w W)(hb:w.heap.size<=b)(c d:Int)(g':Bool)(e:Int):Below w.heap.size w ((((W.setCell ⟨b,0,G⟩ (J Q c)).setCell ⟨b,1,G⟩ (J Q d)).setCell ⟨b,2,G⟩ (ν g')).setCell ⟨b,3,G⟩ (J Q e)) :=
 (((hB.setCell hb _).setCell hb _).setCell hb _).setCell hb _
end
theorem zuO(r c:Int)(on g:Bool)(w:u)(hc:0<=c/\c<=65535):Δ ω 75 #[ac #[J Y r,J Y c,ν on,ν g]] w λe w'=>e=μ (ac #[J Y r,J Y (oA r c on),ν on,ν (oR c on g)])/\Below w.heap.size w w':=by
 cases on
 ·go_enter func75,ntmps75
  go_wp2;refine Ξ (v:=.agg _) (by simp[results,results75,go_sem,oA,oR]) D ⟨D,?_⟩;exact(stA (stA (aR _) _) _)
 ·by_cases h:c=0
  ·subst h
   go_enter func75,ntmps75;go_wp2;refine Ξ (v:=.agg _) (by simp[results,results75,go_sem,oA,oR]) D ⟨D,?_⟩;exact(stA (stA (aR _) _) _)
  ·have hb:(0:Int)<c:=by omega
   have e3:IntKind.u16.wrap (c-1)=c-1:=by rw[bj];omega
   have H:=hid h;clear h;go_enter func75,ntmps75;go_wp2;have e:oA r c Γ=c-1:=by unfold oA;simp[H.out]
   have e2:oR c Γ g=g:=by unfold oR;simp[H.out]
   rw[e,e2];refine Ξ (v:=.agg _) (by simp[results,results75,go_sem]) D ⟨D,?_⟩;exact(stA (stA (aR _) _) _)
end Go.Proofs.YthghjlinhokimaaGreatDoor
