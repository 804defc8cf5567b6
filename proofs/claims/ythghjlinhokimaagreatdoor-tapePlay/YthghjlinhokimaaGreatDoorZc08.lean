/-
  Parts of a proof, joined.
-/
import Derived.Test.YthghjlinhokimaaGreatDoorZcA
import Derived.Test.YthghjlinhokimaaGreatDoorZc04
set_option linter.all false
set_option maxRecDepth 100000
set_option maxHeartbeats 1600000
namespace Go.Proofs.YthghjlinhokimaaGreatDoor
open Go.ChangeShapes Go.WideShapes Go.ChangeAt Go.RowKit Go.Proofs.Tryz
/-! ### plain numbers -/
def jI(l a n:Int):Int:=(l*64+a+n)%640/64
def i6(l a n:Int):Int:=(l*64+a+n)%64
def lK(l a:Int)(g:Bool)(n:Int):Bool:=g || decide ((l*64+a+128)/640<(l*64+a+n+128)/640)
def j3(l a f n:Int):Int:=f+(l*64+a+n)/640
structure BOk (l a f : Int) : Prop where
 l0:0<=l
 l1:l<=9
 a0:0<=a
 a1:a<=63
 f0:0<=f
 f1:f<=20000
def na(l a f:Int):Bool:=decide (0<=l/\l<=9/\0<=a/\a<=63/\0<=f/\f<=20000)
theorem oK(l a f:Int):na l a f=true ↔ BOk l a f:=by
 unfold na;rw[bC];exact⟨λ⟨h1,h2,h3,h4,b,c⟩=>⟨h1,h2,h3,h4,b,c⟩,λ⟨h1,h2,h3,h4,b,c⟩=>⟨h1,h2,h3,h4,b,c⟩⟩
def tL(l a:Int):Int:=if a=63 then (if l=9 then 0 else l+1) else l
def tA(a:Int):Int:=if a=63 then 0 else a+1
def tG(l a:Int)(g:Bool):Bool:=if a=63/\l=7 then true else g
def tF(l a f:Int):Int:=if a=63/\l=9 then f+1 else f
theorem zvI(l a f:Int)(g:Bool)(b:0<=l/\l<=9)(c:0<=a/\a<=63):jI l a 0=l/\i6 l a 0=a/\lK l a g 0=g/\j3 l a f 0=f:=by
 unfold jI i6 lK j3;refine⟨by omega,by omega,?_,by omega⟩;rw[Int.add_zero,aF (Int.lt_irrefl _),lO]
theorem wo(l a n:Int)(b:0<=l/\l<=9)(c:0<=a/\a<=63)(d:0<=n):(0<=jI l a n/\jI l a n<=9)/\(0<=i6 l a n/\i6 l a n<=63):=by
 unfold jI i6;omega
theorem zxn(l a n:Int)(b:0<=l/\l<=9)(c:0<=a/\a<=63)(d:0<=n):jI l a n*64+i6 l a n=(l*64+a+n)%640:=by
 unfold jI i6;omega
theorem zxo(g:Bool)(p q r:Prop)[Decidable p][Decidable q][Decidable r](h:(p \/ q) ↔ r):((g || decide p) || decide q)=(g || decide r):=by
 rw[Bool.or_assoc];congr 1;rw[<- Bool.decide_or];exact cC.2 h
theorem zxp(l a f n m:Int)(g:Bool)(b:0<=l/\l<=9)(c:0<=a/\a<=63)(d:0<=n)(e:0<=m):jI (jI l a n) (i6 l a n) m=jI l a (n+m)/\i6 (jI l a n) (i6 l a n) m=i6 l a (n+m)/\lK (jI l a n) (i6 l a n) (lK l a g n) m=lK l a g (n+m)/\j3 (jI l a n) (i6 l a n) (j3 l a f n) m=j3 l a f (n+m):=by
 have hp:=zxn l a n b c d;have h:i6 l a n=(l*64+a+n)%640%64:=by unfold i6;omega
 refine⟨?_,?_,?_,?_⟩
 ·unfold jI at hp ⊢
  rw[hp];omega
 ·unfold i6 jI at hp ⊢
  rw[hp];omega
 ·unfold lK
  rw[hp];exact zxo g _ _ _ (by omega)
 ·unfold j3
  rw[hp];omega
theorem zxq(l a f:Int)(g:Bool)(b:0<=l/\l<=9)(c:0<=a/\a<=63):jI l a 1=tL l a/\i6 l a 1=tA a/\lK l a g 1=tG l a g/\j3 l a f 1=tF l a f:=by
 unfold jI i6 lK j3 tL tA tG tF;refine⟨by split <;> (try split) <;> omega,by split <;> omega,?_,by split <;> omega⟩;split
 ·rw[aL (by omega),Bool.or_true]
 ·rw[aF (by omega),lO]
/-! ### the package -/
theorem zqk:(Tryz.prog.info? 38).map (·.size)=some 4:=by kernel_rfl
theorem zdY(W:World)(q:Nat)(l a f:Int)(g:Bool)(h:W.rangeAt q 0 [.int .i64 l,.int .i64 a,.bool g,.int .i64 f]):(loadVar 38 ⟨q,0,none⟩).run prog W=.ok (.agg #[.int .i64 l,.int .i64 a,.bool g,.int .i64 f]) W :=
 run_loadVar_mid W q 0 38 _ _ h underlying38 rfl zqk
def oc(n m:Int):Bool:=decide (0<=n) && decide (n<=m)
theorem sn{n m:Int}(a:0<=n)(h1:n<=m):oc n m=true:=by unfold oc;simp[a,h1]
theorem zh6{n m:Int}(h:¬ (0<=n/\n<=m)):oc n m=false:=by unfold oc;rw[<- ju];exact aF h
theorem rj(n m:Int)(w:World):Calls prog 122 #[.int .i64 n,.int .i64 m] w λe w'=>e=.returned (.bool (oc n m))/\w=w':=by
 unfold oc;by_cases h:0<=n
 ·go_enter func122,ntmps122
  go_wp2;go_ret;exact⟨nG (by simp[h]),U⟩
 ·go_enter func122,ntmps122
  go_wp2;go_ret;exact⟨nG (by simp;omega),U⟩
theorem zfu(own:Int)(w:World):Calls prog 123 #[.int .i64 own] w λe w'=>e=.returned (.func (.func 205) #[] #[.pointer (some ⟨w.heap.size,0,none⟩)])/\w'=w.alloc (.cells #[.int .i64 own] 3):=by
 go_enter func123,ntmps123;go_wp2;go_ret;exact⟨U,U⟩
theorem zb9(own c:Int)(b:Nat)(w:World)(a:0<=own/\own<=640)(hc:0<=c/\c<=30000)(h:w.cell? ⟨b,0,none⟩=some (.int .i64 own))(hb:b<w.heap.size):Calls prog 205 #[.int .i64 c,.pointer (some ⟨b,0,none⟩)] w λe w'=>e=.returned (.int .i64 ((c+640-own)/640))/\w=w':=by
 have e1:Int.tdiv (c+640-own) 640=(c+640-own)/640:=aD (by omega);go_enter func205,ntmps205;go_wp2;go_ret;exact⟨by first|rfl|(congr 2;omega),U⟩
theorem zca(l a f:Int)(g:Bool)(w:World)(h:BOk l a f):Calls prog 121 #[.agg #[.int .i64 l,.int .i64 a,.bool g,.int .i64 f]] w λe w'=>e=.returned (.int .i64 0)/\Below w.heap.size w w':=by
 have h1:=sn h.l0 h.l1;have h2:=sn h.a0 h.a1;have h3:=sn h.f0 h.f1;clear h;go_enter func121,ntmps121;go_wp2_with (go_at_call 122;refine(rj _ _ _).mono ?_;rintro e w0 ⟨rfl,rfl⟩)
 go_ret;exact⟨U,stA (J _) _⟩
theorem zfv(l a f:Int)(g:Bool)(w:World)(h:¬ BOk l a f):Calls prog 121 #[.agg #[.int .i64 l,.int .i64 a,.bool g,.int .i64 f]] w λe w'=>e=.returned (.int .i64 3)/\Below w.heap.size w w':=by
 by_cases b:0<=l/\l<=9
 ·have h1:=sn b.1 b.2
  by_cases c:0<=a/\a<=63
  ·have h2:=sn c.1 c.2
   have h3:=zh6 (n:=f) (m:=20000) λd=>h ⟨b.1,b.2,c.1,c.2,d.1,d.2⟩
   clear h b c;go_enter func121,ntmps121;go_wp2_with (go_at_call 122;refine(rj _ _ _).mono ?_;rintro e w0 ⟨rfl,rfl⟩)
   go_ret;exact⟨U,stA (J _) _⟩
  ·have h2:=zh6 c
   clear h b c;go_enter func121,ntmps121;go_wp2_with (go_at_call 122;refine(rj _ _ _).mono ?_;rintro e w0 ⟨rfl,rfl⟩)
   go_ret;exact⟨U,stA (J _) _⟩
 ·have h1:=zh6 b
  clear h b;go_enter func121,ntmps121;go_wp2_with (go_at_call 122;refine(rj _ _ _).mono ?_;rintro e w0 ⟨rfl,rfl⟩)
  go_ret;exact⟨U,stA (J _) _⟩
theorem zjC(l a f:Int)(g:Bool)(w:World)(m:0<=l/\l<=9)(n:0<=a/\a<=63)(o:0<=f/\f<=1000000):Calls prog 77 #[.agg #[.int .i64 l,.int .i64 a,.bool g,.int .i64 f]] w λe w'=>e=.returned (.agg #[.int .i64 (tL l a),.int .i64 (tA a),.bool (tG l a g),.int .i64 (tF l a f)])/\Below w.heap.size w w':=by
 by_cases h:a=63
 ·subst h
  by_cases c:l=9
  ·subst c
   go_enter func77,ntmps77;go_wp2;refine ao (v:=.agg _) (by simp[results,results77,go_sem,tL,tA,tG,tF]) U ⟨U,?_⟩;exact(stA (stA (J _) _) _)
  ·by_cases d:l=7
   ·subst d
    go_enter func77,ntmps77;go_wp2;refine ao (v:=.agg _) (by simp[results,results77,go_sem,tL,tA,tG,tF]) U ⟨U,?_⟩;exact(stA (stA (J _) _) _)
   ·have q1:(l+1 == 8)=false:=by simp;omega
    have p:(l+1 == 10)=false:=by simp;omega
    have i:tL l 63=l+1:=by simp[tL,c]
    have j:tG l 63 g=g:=by simp[tG,d]
    have k:tF l 63 f=f:=by simp[tF,c]
    have b:=hid (And.intro i (And.intro j k));clear i j k c d;go_enter func77,ntmps77;go_wp2;rw[b.out.1,b.out.2.1,b.out.2.2];refine ao (v:=.agg _) (by simp[results,results77,go_sem,tA]) U ⟨U,?_⟩;exact(stA (stA (J _) _) _)
 ·have q1:(a+1 == 64)=false:=by simp;omega
  have b:Hid (tL l a=l/\tA a=a+1/\tG l a g=g/\tF l a f=f):=hid (by simp[tL,tA,tG,tF,h]);clear h;go_enter func77,ntmps77;go_wp2;rw[b.out.1,b.out.2.1,b.out.2.2.1,b.out.2.2.2];refine ao (v:=.agg _) (by simp[results,results77,go_sem]) U ⟨U,?_⟩;exact(stA (stA (J _) _) _)
theorem Pl.res{P:Program}{b o:Nat}{t:TypeId}{Y:World}{v:Value}(h:(loadVar t ⟨b,o,none⟩).run P Y=.ok v Y):((Sem.run P (asAddr (Value.pointer (some ⟨b,o,none⟩))) Y).andThen λa w'=>Sem.run P (loadVar t a) w')=.ok v Y:=h
/-! ### plain numbers -/
structure TM where
 r:Int
 c:Int
 on:Bool
 g:Bool
def kZ(r c:Int)(on:Bool):Int:=if on then (if c=0 then r else c-1) else c
def lr(c:Int)(on g:Bool):Bool:=if on then (if c=0 then true else g) else g
/-! ### the package -/
theorem zor:(Tryz.prog.info? 31).map (·.size)=some 4:=by kernel_rfl
theorem sk(W:World)(q:Nat)(r c:Int)(on g:Bool)(h:W.rangeAt q 0 [.int .u16 r,.int .u16 c,.bool on,.bool g]):(loadVar 31 ⟨q,0,none⟩).run prog W=.ok (.agg #[.int .u16 r,.int .u16 c,.bool on,.bool g]) W :=
 run_loadVar_mid W q 0 31 _ _ h underlying31 rfl zor
theorem zw3(k:Nat)(l:k<32)(g:k≠30)(h:O.mask k=0)(a b:Int)(y:0<=a)(o:a<=65535)(hb:0<=b)(p:b<=65535)(q:a/2048=k)(w:World)(m:aZ w):Calls prog 271 #[.int .u16 a,.int .u16 b] w λe w'=>e=.returned (.tuple #[.agg #[.int .i64 k,.int .i64 (0),.int .i64 (0),.int .i64 (0),.int .i64 (0)],.int .i64 1])/\Below w.heap.size w w':=by
 have f:=nP (.string (O.nameS k)) (.int .i64 (K.cyc k)) k l;have r:=hid m;have s:=hid h;have n:=hid f;rw[h] at n;clear m h f;go_enter func271,ntmps271;go_wp2_with (first
  | (go_at_call 256;refine(oq k l g _ (lq r.out _)).mono ?_;rw[s.out];rintro e w1 ⟨rfl,c⟩;obtain⟨t,u⟩:=bQ c;have i:w.heap.size<w1.heap.size:=by have:=c.size;simp at this;omega))
 go_region_held3 (λw'=>w'.cell? ⟨w1.heap.size,0,none⟩=some (.string (O.nameS k))/\w'.cell? ⟨w1.heap.size,1,none⟩=some (.int .i64 (K.cyc k))/\w'.cell? ⟨w1.heap.size,2,none⟩=some (.int .i64 0)/\w'.cell? ⟨w1.heap.size+1,0,none⟩=some (.int .i64 (k))/\w'.cell? ⟨w1.heap.size+1,1,none⟩=some (.int .i64 (0))/\w'.cell? ⟨w1.heap.size+1,2,none⟩=some (.int .i64 (0))/\w'.cell? ⟨w1.heap.size+1,3,none⟩=some (.int .i64 (0))/\w'.cell? ⟨w1.heap.size+1,4,none⟩=some (.int .i64 (0)))
  (first
    | with_reducible exact j7 d
    | with_reducible exact iV i (by assumption)
    | (go_keep;done))
  ((go_at_call 288;refine(n.out _).mono ?_;rintro e w2 ⟨rfl,d⟩;obtain⟨j,x⟩:=iW c d))
 go_wp2;refine ao (v:=.tuple #[.agg #[.int .i64 k,.int .i64 (0),.int .i64 (0),.int .i64 (0),.int .i64 (0)],.int .i64 1]) (by simp[results,results271,go_sem,j,lenOf]) U ⟨U,?_⟩;exact(((((bn (stA (stA (bn (stA (J _) _) c) _) _).drew d).setCell (ak _) _).setCell (ak _) _).setCell (ak _) _).setCell (ak _) _).setCell (ak _) _
theorem zw4(k:Nat)(l:k<32)(g:k≠30)(h:O.mask k=1)(a b:Int)(z:0<=a)(o:a<=65535)(hb:0<=b)(p:b<=65535)(q:a/2048=k)(w:World)(m:aZ w):Calls prog 271 #[.int .u16 a,.int .u16 b] w λe w'=>e=.returned (.tuple #[.agg #[.int .i64 k,.int .i64 (a/256%8),.int .i64 (0),.int .i64 (0),.int .i64 (0)],.int .i64 1])/\Below w.heap.size w w':=by
 have f:=nP (.string (O.nameS k)) (.int .i64 (K.cyc k)) k l;have r:=hid m;have s:=hid h;have n:=hid f;rw[h] at n;have t:=(pq (a/256) (by omega) (by omega)).1;clear m h f;go_enter func271,ntmps271;go_wp2_with (first
  | (go_at_call 256;refine(oq k l g _ (lq r.out _)).mono ?_;rw[s.out];rintro e w1 ⟨rfl,c⟩;obtain⟨u,x⟩:=bQ c;have i:w.heap.size<w1.heap.size:=by have:=c.size;simp at this;omega))
 clear t;go_region_held3 (λw'=>w'.cell? ⟨w1.heap.size,0,none⟩=some (.string (O.nameS k))/\w'.cell? ⟨w1.heap.size,1,none⟩=some (.int .i64 (K.cyc k))/\w'.cell? ⟨w1.heap.size,2,none⟩=some (.int .i64 1)/\w'.cell? ⟨w1.heap.size+1,0,none⟩=some (.int .i64 (k))/\w'.cell? ⟨w1.heap.size+1,1,none⟩=some (.int .i64 (a/256%8))/\w'.cell? ⟨w1.heap.size+1,2,none⟩=some (.int .i64 (0))/\w'.cell? ⟨w1.heap.size+1,3,none⟩=some (.int .i64 (0))/\w'.cell? ⟨w1.heap.size+1,4,none⟩=some (.int .i64 (0)))
  (first
    | with_reducible exact j7 d
    | with_reducible exact iV i (by assumption)
    | (go_keep;done))
  ((go_at_call 288;refine(n.out _).mono ?_;rintro e w2 ⟨rfl,d⟩;obtain⟨j,y⟩:=iW c d))
 go_wp2;refine ao (v:=.tuple #[.agg #[.int .i64 k,.int .i64 (a/256%8),.int .i64 (0),.int .i64 (0),.int .i64 (0)],.int .i64 1]) (by simp[results,results271,go_sem,j,lenOf]) U ⟨U,?_⟩;exact(((((bn (stA (stA (bn (stA (J _) _) c) _) _).drew d).setCell (ak _) _).setCell (ak _) _).setCell (ak _) _).setCell (ak _) _).setCell (ak _) _
theorem zw5(k:Nat)(l:k<32)(g:k≠30)(h:O.mask k=2)(a b:Int)(z:0<=a)(o:a<=65535)(hb:0<=b)(p:b<=65535)(q:a/2048=k)(w:World)(m:aZ w):Calls prog 271 #[.int .u16 a,.int .u16 b] w λe w'=>e=.returned (.tuple #[.agg #[.int .i64 k,.int .i64 (0),.int .i64 (a/32%8),.int .i64 (0),.int .i64 (0)],.int .i64 1])/\Below w.heap.size w w':=by
 have f:=nP (.string (O.nameS k)) (.int .i64 (K.cyc k)) k l;have r:=hid m;have s:=hid h;have n:=hid f;rw[h] at n;have t:=(pq (a/32) (by omega) (by omega)).1;clear m h f;go_enter func271,ntmps271;go_wp2_with (first
  | (go_at_call 256;refine(oq k l g _ (lq r.out _)).mono ?_;rw[s.out];rintro e w1 ⟨rfl,c⟩;obtain⟨u,x⟩:=bQ c;have i:w.heap.size<w1.heap.size:=by have:=c.size;simp at this;omega))
 clear t;go_region_held3 (λw'=>w'.cell? ⟨w1.heap.size,0,none⟩=some (.string (O.nameS k))/\w'.cell? ⟨w1.heap.size,1,none⟩=some (.int .i64 (K.cyc k))/\w'.cell? ⟨w1.heap.size,2,none⟩=some (.int .i64 2)/\w'.cell? ⟨w1.heap.size+1,0,none⟩=some (.int .i64 (k))/\w'.cell? ⟨w1.heap.size+1,1,none⟩=some (.int .i64 (0))/\w'.cell? ⟨w1.heap.size+1,2,none⟩=some (.int .i64 (a/32%8))/\w'.cell? ⟨w1.heap.size+1,3,none⟩=some (.int .i64 (0))/\w'.cell? ⟨w1.heap.size+1,4,none⟩=some (.int .i64 (0)))
  (first
    | with_reducible exact j7 d
    | with_reducible exact iV i (by assumption)
    | (go_keep;done))
  ((go_at_call 288;refine(n.out _).mono ?_;rintro e w2 ⟨rfl,d⟩;obtain⟨j,y⟩:=iW c d))
 go_wp2;refine ao (v:=.tuple #[.agg #[.int .i64 k,.int .i64 (0),.int .i64 (a/32%8),.int .i64 (0),.int .i64 (0)],.int .i64 1]) (by simp[results,results271,go_sem,j,lenOf]) U ⟨U,?_⟩;exact(((((bn (stA (stA (bn (stA (J _) _) c) _) _).drew d).setCell (ak _) _).setCell (ak _) _).setCell (ak _) _).setCell (ak _) _).setCell (ak _) _
theorem zw6(k:Nat)(l:k<32)(g:k≠30)(h:O.mask k=3)(a b:Int)(B:0<=a)(o:a<=65535)(hb:0<=b)(p:b<=65535)(q:a/2048=k)(w:World)(m:aZ w):Calls prog 271 #[.int .u16 a,.int .u16 b] w λe w'=>e=.returned (.tuple #[.agg #[.int .i64 k,.int .i64 (a/256%8),.int .i64 (a/32%8),.int .i64 (0),.int .i64 (0)],.int .i64 1])/\Below w.heap.size w w':=by
 have f:=nP (.string (O.nameS k)) (.int .i64 (K.cyc k)) k l;have r:=hid m;have s:=hid h;have n:=hid f;rw[h] at n;have t:=(pq (a/256) (by omega) (by omega)).1;have u:=(pq (a/32) (by omega) (by omega)).1;clear m h f;go_enter func271,ntmps271;go_wp2_with (first
  | (go_at_call 256;refine(oq k l g _ (lq r.out _)).mono ?_;rw[s.out];rintro e w1 ⟨rfl,c⟩;obtain⟨x,y⟩:=bQ c;have i:w.heap.size<w1.heap.size:=by have:=c.size;simp at this;omega))
 clear t u;go_region_held3 (λw'=>w'.cell? ⟨w1.heap.size,0,none⟩=some (.string (O.nameS k))/\w'.cell? ⟨w1.heap.size,1,none⟩=some (.int .i64 (K.cyc k))/\w'.cell? ⟨w1.heap.size,2,none⟩=some (.int .i64 3)/\w'.cell? ⟨w1.heap.size+1,0,none⟩=some (.int .i64 (k))/\w'.cell? ⟨w1.heap.size+1,1,none⟩=some (.int .i64 (a/256%8))/\w'.cell? ⟨w1.heap.size+1,2,none⟩=some (.int .i64 (a/32%8))/\w'.cell? ⟨w1.heap.size+1,3,none⟩=some (.int .i64 (0))/\w'.cell? ⟨w1.heap.size+1,4,none⟩=some (.int .i64 (0)))
  (first
    | with_reducible exact j7 d
    | with_reducible exact iV i (by assumption)
    | (go_keep;done))
  ((go_at_call 288;refine(n.out _).mono ?_;rintro e w2 ⟨rfl,d⟩;obtain⟨j,z⟩:=iW c d))
 go_wp2;refine ao (v:=.tuple #[.agg #[.int .i64 k,.int .i64 (a/256%8),.int .i64 (a/32%8),.int .i64 (0),.int .i64 (0)],.int .i64 1]) (by simp[results,results271,go_sem,j,lenOf]) U ⟨U,?_⟩;exact(((((bn (stA (stA (bn (stA (J _) _) c) _) _).drew d).setCell (ak _) _).setCell (ak _) _).setCell (ak _) _).setCell (ak _) _).setCell (ak _) _
theorem zw7(k:Nat)(l:k<32)(g:k≠30)(h:O.mask k=5)(a b:Int)(z:0<=a)(o:a<=65535)(hb:0<=b)(p:b<=65535)(q:a/2048=k)(w:World)(m:aZ w):Calls prog 271 #[.int .u16 a,.int .u16 b] w λe w'=>e=.returned (.tuple #[.agg #[.int .i64 k,.int .i64 (a/256%8),.int .i64 (0),.int .i64 (M.low a 5),.int .i64 (0)],.int .i64 1])/\Below w.heap.size w w':=by
 have f:=nP (.string (O.nameS k)) (.int .i64 (K.cyc k)) k l;have r:=hid m;have s:=hid h;have n:=hid f;rw[h] at n;have t:=(pq (a/256) (by omega) (by omega)).1;clear m h f;go_enter func271,ntmps271;go_wp2_with (first
  | (go_at_call 256;refine(oq k l g _ (lq r.out _)).mono ?_;rw[s.out];rintro e w1 ⟨rfl,c⟩;obtain⟨u,x⟩:=bQ c;have i:w.heap.size<w1.heap.size:=by have:=c.size;simp at this;omega)
  | (go_at_call 337;refine(zc5 _ _ _ (by omega) (by omega) (by omega) (by omega)).mono ?_;rintro e w' ⟨rfl,rfl⟩))
 clear t;go_region_held3 (λw'=>w'.cell? ⟨w1.heap.size,0,none⟩=some (.string (O.nameS k))/\w'.cell? ⟨w1.heap.size,1,none⟩=some (.int .i64 (K.cyc k))/\w'.cell? ⟨w1.heap.size,2,none⟩=some (.int .i64 5)/\w'.cell? ⟨w1.heap.size+1,0,none⟩=some (.int .i64 (k))/\w'.cell? ⟨w1.heap.size+1,1,none⟩=some (.int .i64 (a/256%8))/\w'.cell? ⟨w1.heap.size+1,2,none⟩=some (.int .i64 (0))/\w'.cell? ⟨w1.heap.size+1,3,none⟩=some (.int .i64 (M.low a 5))/\w'.cell? ⟨w1.heap.size+1,4,none⟩=some (.int .i64 (0)))
  (first
    | with_reducible exact j7 d
    | with_reducible exact iV i (by assumption)
    | (go_keep;done))
  ((go_at_call 288;refine(n.out _).mono ?_;rintro e w2 ⟨rfl,d⟩;obtain⟨j,y⟩:=iW c d))
 go_wp2;refine ao (v:=.tuple #[.agg #[.int .i64 k,.int .i64 (a/256%8),.int .i64 (0),.int .i64 (M.low a 5),.int .i64 (0)],.int .i64 1]) (by simp[results,results271,go_sem,j,lenOf]) U ⟨U,?_⟩;exact(((((bn (stA (stA (bn (stA (J _) _) c) _) _).drew d).setCell (ak _) _).setCell (ak _) _).setCell (ak _) _).setCell (ak _) _).setCell (ak _) _
theorem zq2(r c:Int)(g:Bool)(w:World)(hc:0<=c/\c<=65535):Calls prog 116 #[.agg #[.int .u16 r,.int .u16 c,.bool true,.bool g]] w λe w'=>e=.returned (.agg #[.int .u16 r,.int .u16 (kZ r c true),.bool true,.bool (lr c true g)])/\Below w.heap.size w w':=by
 by_cases h:c=0
 ·subst h
  go_enter func116,ntmps116;go_wp2;refine ao (v:=.agg _) (by simp[results,results116,go_sem,kZ,lr]) U ⟨U,?_⟩;exact(stA (stA (J _) _) _)
 ·have hb:(c == 0)=false:=by simpa using h
  have H:=hid h;clear h;go_enter func116,ntmps116;go_wp2;have e:kZ r c true=c-1:=by unfold kZ;simp[H.out]
  have a:=H.out;have e3:IntKind.u16.wrap (c-1)=c-1:=by rw[bc];omega
  have e2:lr c true g=g:=by unfold lr;simp[H.out]
  rw[e,e2];refine ao (v:=.agg _) (by simp[results,results116,go_sem,e3]) U ⟨U,?_⟩;exact(stA (stA (J _) _) _)
theorem ztu(r c:Int)(on g:Bool)(w:World):Calls prog 280 #[.agg #[.int .u16 r,.int .u16 c,.bool on,.bool g]] w λe w'=>e=.returned (.agg #[.int .u16 r,.int .u16 r,.bool on,.bool g])/\Below w.heap.size w w':=by
 go_enter func280,ntmps280;go_wp2;refine ao (v:=.agg _) (by simp[results,results280,go_sem];try rfl) U ⟨U,?_⟩;exact(stA (stA (J _) _) _)
theorem lj{w w1:World}{o:Obj}(a:Below ((w.alloc o).alloc (.cells #[.int .u16 0,.int .u16 0,.bool false,.bool false] 31)).heap.size ((w.alloc o).alloc (.cells #[.int .u16 0,.int .u16 0,.bool false,.bool false] 31)) w1):w1.there (w.heap.size+1) 0 4/\Below w.heap.size w w1:=by
 refine⟨zcJ (qc (w.alloc o) #[.int .u16 0,.int .u16 0,.bool false,.bool false] 31 4 (w.heap.size+1) (by simp) U) a (by simp),bn (stA (stA (J w) _) _) a⟩
theorem og{w aa:World}(r c:Int)(on g:Bool)(a:aa.there (w.heap.size+1) 0 4)(hB:Below w.heap.size w aa):Below w.heap.size w ((((aa.setCell ⟨w.heap.size+1,0,none⟩ (.int .u16 r)).setCell ⟨w.heap.size+1,1,none⟩ (.int .u16 c)).setCell ⟨w.heap.size+1,2,none⟩ (.bool on)).setCell ⟨w.heap.size+1,3,none⟩ (.bool g)) /\
  ((((aa.setCell ⟨w.heap.size+1,0,none⟩ (.int .u16 r)).setCell ⟨w.heap.size+1,1,none⟩ (.int .u16 c)).setCell ⟨w.heap.size+1,2,none⟩ (.bool on)).setCell ⟨w.heap.size+1,3,none⟩ (.bool g)).rangeAt (w.heap.size+1) 0 [.int .u16 r,.int .u16 c,.bool on,.bool g]:=by
 have h:=World.rangeAt_setCells_same aa (w.heap.size+1) 0 [.int .u16 r,.int .u16 c,.bool on,.bool g] a;have h2:=Pl.below (ek w.heap.size) [.int .u16 r,.int .u16 c,.bool on,.bool g] 0 aa hB;simp only[World.setCells,aN,Nat.reduceAdd] at h h2;exact⟨h2,h⟩
/-! ### whenOn -/
theorem znv(r c:Int)(g:Bool)(f:Value)(w:World):Calls prog 115 #[.agg #[.int .u16 r,.int .u16 c,.bool false,.bool g],f] w λe w'=>e=.returned (.agg #[.int .u16 r,.int .u16 c,.bool false,.bool g])/\Below w.heap.size w w':=by
 go_enter func115,ntmps115;go_wp2;refine ao (v:=.agg _) (by simp[results,results115,go_sem]) U ⟨U,?_⟩;exact(stA (stA (J _) _) _)
theorem zq3(r c:Int)(g:Bool)(w:World)(hc:0<=c/\c<=65535):Calls prog 115 #[.agg #[.int .u16 r,.int .u16 c,.bool true,.bool g],.func (.func 116) #[] #[]] w λe w'=>e=.returned (.agg #[.int .u16 r,.int .u16 (kZ r c true),.bool true,.bool (lr c true g)])/\Below w.heap.size w w':=by
 go_enter func115,ntmps115;go_wp2_with (go_at_call 116;refine(zq2 _ _ _ _ hc).mono ?_;rintro e w1 ⟨rfl,a⟩;obtain⟨h,f1⟩:=bQ a;have i:w.heap.size+1<w1.heap.size:=ap (by simp) a.size)
 have b:=og r (kZ r c true) true (lr c true g) (lj a).1 (lj a).2;refine Pl.cutB (λY=>Below w.heap.size w Y/\Y.rangeAt (w.heap.size+1) 0 [.int .u16 r,.int .u16 (kZ r c true),.bool true,.bool (lr c true g)]) b ?_;rintro Y ⟨d,f⟩;exact ao (v:=.agg _) (by simp only[results,results115];simp;exact Pl.res (sk _ _ _ _ _ _ f)) U ⟨U,d⟩
theorem ztv(r c:Int)(g:Bool)(w:World):Calls prog 115 #[.agg #[.int .u16 r,.int .u16 c,.bool true,.bool g],.func (.func 280) #[] #[]] w λe w'=>e=.returned (.agg #[.int .u16 r,.int .u16 r,.bool true,.bool g])/\Below w.heap.size w w':=by
 go_enter func115,ntmps115;go_wp2_with (go_at_call 280;refine(ztu _ _ _ _ _).mono ?_;rintro e w1 ⟨rfl,a⟩;obtain⟨h,f1⟩:=bQ a;have i:w.heap.size+1<w1.heap.size:=ap (by simp) a.size)
 have b:=og r r true g (lj a).1 (lj a).2;refine Pl.cutB (λY=>Below w.heap.size w Y/\Y.rangeAt (w.heap.size+1) 0 [.int .u16 r,.int .u16 r,.bool true,.bool g]) b ?_;rintro Y ⟨d,f⟩;exact ao (v:=.agg _) (by simp only[results,results115];simp;exact Pl.res (sk _ _ _ _ _ _ f)) U ⟨U,d⟩
/-! ### Set, Tick, Run -/
theorem zlM(r c:Int)(on g:Bool)(w:World)(hc:0<=c/\c<=65535):Calls prog 63 #[.agg #[.int .u16 r,.int .u16 c,.bool on,.bool g]] w λe w'=>e=.returned (.agg #[.int .u16 r,.int .u16 (kZ r c on),.bool on,.bool (lr c on g)])/\Below w.heap.size w w':=by
 cases on
 ·go_enter func63,ntmps63
  go_wp2_with (go_at_call 115;refine(znv _ _ _ _ _).mono ?_;rintro e w1 ⟨rfl,a⟩;obtain⟨h,f1⟩:=bQ a;have i:w.heap.size+1<w1.heap.size:=ap (by simp) a.size)
  have b:=og r c false g (lj a).1 (lj a).2;refine Pl.cutB (λY=>Below w.heap.size w Y/\Y.rangeAt (w.heap.size+1) 0 [.int .u16 r,.int .u16 c,.bool false,.bool g]) b ?_;rintro Y ⟨d,f⟩;exact ao (v:=.agg _) (by simp only[results,results63];simp;exact Pl.res (sk _ _ _ _ _ _ f)) U ⟨U,d⟩
 ·go_enter func63,ntmps63
  go_wp2_with (go_at_call 115;refine(zq3 _ _ _ _ hc).mono ?_;rintro e w1 ⟨rfl,a⟩;obtain⟨h,f1⟩:=bQ a;have i:w.heap.size+1<w1.heap.size:=ap (by simp) a.size)
  have b:=og r (kZ r c true) true (lr c true g) (lj a).1 (lj a).2;refine Pl.cutB (λY=>Below w.heap.size w Y/\Y.rangeAt (w.heap.size+1) 0 [.int .u16 r,.int .u16 (kZ r c true),.bool true,.bool (lr c true g)]) b ?_;rintro Y ⟨d,f⟩;exact ao (v:=.agg _) (by simp only[results,results63];simp;exact Pl.res (sk _ _ _ _ _ _ f)) U ⟨U,d⟩
theorem zig(r c:Int)(h on g:Bool)(w:World):Calls prog 245 #[.agg #[.int .u16 r,.int .u16 c,.bool h,.bool g],.bool on] w λe w'=>e=.returned (.agg #[.int .u16 r,.int .u16 (et on r c),.bool on,.bool g])/\Below w.heap.size w w':=by
 cases on
 ·go_enter func245,ntmps245
  go_wp2_with (go_at_call 115;refine(znv _ _ _ _ _).mono ?_;rintro e w1 ⟨rfl,a⟩;obtain⟨i,f1⟩:=bQ a;have j:w.heap.size+1<w1.heap.size:=ap (by simp) a.size)
  have b:=og r c false g (lj a).1 (lj a).2;refine Pl.cutB (λY=>Below w.heap.size w Y/\Y.rangeAt (w.heap.size+1) 0 [.int .u16 r,.int .u16 c,.bool false,.bool g]) b ?_;rintro Y ⟨d,f⟩;exact ao (v:=.agg _) (by simp only[results,results245];simp;exact Pl.res (sk _ _ _ _ _ _ f)) U ⟨U,d⟩
 ·go_enter func245,ntmps245
  go_wp2_with (go_at_call 115;refine(ztv _ _ _ _).mono ?_;rintro e w1 ⟨rfl,a⟩;obtain⟨i,f1⟩:=bQ a;have j:w.heap.size+1<w1.heap.size:=ap (by simp) a.size)
  have b:=og r r true g (lj a).1 (lj a).2;refine Pl.cutB (λY=>Below w.heap.size w Y/\Y.rangeAt (w.heap.size+1) 0 [.int .u16 r,.int .u16 r,.bool true,.bool g]) b ?_;rintro Y ⟨d,f⟩;exact ao (v:=.agg _) (by simp only[results,results245];simp;exact Pl.res (sk _ _ _ _ _ _ f)) U ⟨U,d⟩
structure Bat (W : World) (b : Nat) (l a : Int) (g : Bool) (f : Int) : Prop where
 z:b<W.heap.size
 c0:W.cell? ⟨b,0,none⟩=some (.int .i64 l)
 c1:W.cell? ⟨b,1,none⟩=some (.int .i64 a)
 c2:W.cell? ⟨b,2,none⟩=some (.bool g)
 c3:W.cell? ⟨b,3,none⟩=some (.int .i64 f)
 f:∀ o,W.frozen? ⟨b,o,none⟩=false
section
variable {W w1 : World} {b : Nat} {l a f : Int} {g : Bool}
theorem Bat.kept(h:Bat W b l a g f)(hb:Below W.heap.size W w1):Bat w1 b l a g f :=
 ⟨ap h.z hb.size,(hb.cell (p:=⟨b,0,none⟩) h.z).trans h.c0,(hb.cell (p:=⟨b,1,none⟩) h.z).trans h.c1,(hb.cell (p:=⟨b,2,none⟩) h.z).trans h.c2,(hb.cell (p:=⟨b,3,none⟩) h.z).trans h.c3,λo=>(hb.frozen (p:=⟨b,o,none⟩) h.z).trans (h.f o)⟩
theorem Bat.over(h:Bat W b l a g f)(o:Obj):Bat (W.alloc o) b l a g f:=h.kept (stA (J W) o)
theorem Bat.new(W:World)(l a:Int)(g:Bool)(f:Int):Bat (W.alloc (.cells #[.int .i64 l,.int .i64 a,.bool g,.int .i64 f] 38)) W.heap.size l a g f :=
 ⟨by simp,Pl.new _ _ _ _ U,Pl.new _ _ _ _ U,Pl.new _ _ _ _ U,Pl.new _ _ _ _ U,λo=>Lib.frozen_of_heap (aJ W _) o⟩
theorem Bat.far(h:Bat W b l a g f){b' o':Nat}(c:b'≠b)(v:Value):Bat (W.setCell ⟨b',o',none⟩ v) b l a g f:=by
 have e:∀ o,(W.setCell ⟨b',o',none⟩ v).cell? ⟨b,o,none⟩=W.cell? ⟨b,o,none⟩:=λo=>World.cell?_setCell_far W _ _ v c
 exact⟨by simpa using h.z,(e 0).trans h.c0,(e 1).trans h.c1,(e 2).trans h.c2,(e 3).trans h.c3,λo=>by simpa using h.f o⟩
theorem Bat.put2(h:Bat W b l a g f)(g':Bool):Bat (W.setCell ⟨b,2,none⟩ (.bool g')) b l a g' f:=by
 have e:∀ o,o≠2->(W.setCell ⟨b,2,none⟩ (.bool g')).cell? ⟨b,o,none⟩=W.cell? ⟨b,o,none⟩:=λo c=>az _ _ _ _ (by intro e;exact c (congrArg Addr.off e).symm)
 exact⟨by simpa using h.z,(e 0 (by omega)).trans h.c0,(e 1 (by omega)).trans h.c1,fs _ _ _ (by rw[h.c2];rfl),(e 3 (by omega)).trans h.c3,λo=>by simpa using h.f o⟩
theorem Bat.drew(h:Bat W b l a g f):Bat W.drew b l a g f:=⟨h.z,h.c0,h.c1,h.c2,h.c3,h.f⟩
theorem Bat.range(h:Bat W b l a g f):W.rangeAt b 0 [.int .i64 l,.int .i64 a,.bool g,.int .i64 f]:=λj v c=>by
 rw[aN]
 match j,c with
 | 0,c=>rw[h.c0];simpa using c
 | 1,c=>rw[h.c1];simpa using c
 | 2,c=>rw[h.c2];simpa using c
 | 3,c=>rw[h.c3];simpa using c
theorem Bat.puts(h:Bat W b l a g f)(d e:Int)(g':Bool)(i:Int):Bat ((((W.setCell ⟨b,0,none⟩ (.int .i64 d)).setCell ⟨b,1,none⟩ (.int .i64 e)).setCell ⟨b,2,none⟩ (.bool g')).setCell ⟨b,3,none⟩ (.int .i64 i)) b d e g' i:=by
 have k:W.there b 0 4:=λj m=>by
  refine⟨?_,h.f _⟩;rw[aN]
  match j,m with
  | 0,_=>rw[h.c0];rfl
  | 1,_=>rw[h.c1];rfl
  | 2,_=>rw[h.c2];rfl
  | 3,_=>rw[h.c3];rfl
 have c:=World.rangeAt_setCells_same W b 0 [.int .i64 d,.int .i64 e,.bool g',.int .i64 i] k;simp only[World.setCells,aN,Nat.reduceAdd] at c;exact⟨by simpa using h.z,c 0 _ U,c 1 _ U,c 2 _ U,c 3 _ U,λo=>by simpa using h.f o⟩
theorem Bat.below(h:Bat W b l a g f){w:World}(hB:Below w.heap.size w W)(hb:w.heap.size<=b)(c d:Int)(g':Bool)(e:Int):Below w.heap.size w ((((W.setCell ⟨b,0,none⟩ (.int .i64 c)).setCell ⟨b,1,none⟩ (.int .i64 d)).setCell ⟨b,2,none⟩ (.bool g')).setCell ⟨b,3,none⟩ (.int .i64 e)) :=
 (((hB.setCell hb _).setCell hb _).setCell hb _).setCell hb _
end
theorem zsb(r c:Int)(on g:Bool)(w:World)(hc:0<=c/\c<=65535):Calls prog 75 #[.agg #[.int .u16 r,.int .u16 c,.bool on,.bool g]] w λe w'=>e=.returned (.agg #[.int .u16 r,.int .u16 (kZ r c on),.bool on,.bool (lr c on g)])/\Below w.heap.size w w':=by
 cases on
 ·go_enter func75,ntmps75
  go_wp2;refine ao (v:=.agg _) (by simp[results,results75,go_sem,kZ,lr]) U ⟨U,?_⟩;exact(stA (stA (J _) _) _)
 ·by_cases h:c=0
  ·subst h
   go_enter func75,ntmps75;go_wp2;refine ao (v:=.agg _) (by simp[results,results75,go_sem,kZ,lr]) U ⟨U,?_⟩;exact(stA (stA (J _) _) _)
  ·have hb:(0:Int)<c:=by omega
   have e3:IntKind.u16.wrap (c-1)=c-1:=by rw[bc];omega
   have H:=hid h;clear h;go_enter func75,ntmps75;go_wp2;have e:kZ r c true=c-1:=by unfold kZ;simp[H.out]
   have e2:lr c true g=g:=by unfold lr;simp[H.out]
   rw[e,e2];refine ao (v:=.agg _) (by simp[results,results75,go_sem]) U ⟨U,?_⟩;exact(stA (stA (J _) _) _)
end Go.Proofs.YthghjlinhokimaaGreatDoor
