/-
  Parts of a proof, joined.
-/
import Derived.Test.YthghjlinhokimaaGreatDoorZbA
import Derived.Test.YthghjlinhokimaaGreatDoorZb04
import Derived.Deep.DeepCutAuto
set_option linter.all false
set_option maxRecDepth 100000
set_option maxHeartbeats 3200000
open Option renaming none->G,some->A
open Go renaming World->u,Value->π,Calls->Δ,TypeId->aJ,DataW->fF,laidMet->mA
open Bool renaming false->ξ,true->Γ
open Go.Proofs.Tryz renaming prog->ω
open Or renaming inl->aj,inr->ao
open Go.Instr renaming index->aK
open Go.DataW renaming trod->dh
open Go.Program renaming fieldsOf->dX
open Go.Lib renaming TabIs->fm,asciiSpaceTab->fP
open Go.Value renaming int->J,slice->κ,bool->ν,agg->ac
open Go.IntKind renaming i64->Q,u16->Y,u8->au
open Go.Ending renaming returned->μ
namespace Go.Proofs.YthghjlinhokimaaGreatDoor
open Go.ChangeShapes Go.WideShapes Go.ChangeAt Go.RowKit Go.Proofs.Tryz
abbrev sV(v:Vc):List π:=[J Y v.p,J Y v.c,J au v.l,ν v.h,J Y v.n]
theorem tb(v:Vc)(m:Int)(w:u)(h:v.ok)(a:0<=m/\m<=20000):Δ ω 120 #[(ac #[J Y v.p,J Y v.c,J au v.l,ν v.h,J Y v.n]),J Q m] w λe w'=>e=μ (ac #[J Y (v.later m).p,J Y (v.later m).c,J au (v.later m).l,ν (v.later m).h,J Y (v.later m).n])/\Below w.heap.size w w' :=
 zsP v.p v.c v.l v.n v.h m w h.p h.c h.n a
theorem zyB(n:Int)(w:u):Δ ω 118 #[J Q n] w λe w'=>e=μ (ν (decide (0<=n/\n<=20000)))/\w=w':=by
 by_cases h1:0<=n
 ·by_cases h2:n<=20000
  ·rw[aO ⟨h1,h2⟩]
   go_enter func118,ntmps118;go_wp2;go_ret;exact⟨D,D⟩
  ·rw[aG (λh=>h2 h.2)]
   go_enter func118,ntmps118;go_wp2;go_ret;exact⟨D,D⟩
 ·rw[aG (λh=>h1 h.1)]
  go_enter func118,ntmps118;go_wp2;go_ret;exact⟨D,D⟩
theorem zik(s:Sd)(w:u)(h:0<=s.w/\s.w<=15):Δ ω 117 #[(ac #[J Y s.a.p,J Y s.a.c,J au s.a.l,ν s.a.h,J Y s.a.n,J Y s.b.p,J Y s.b.c,J au s.b.l,ν s.b.h,J Y s.b.n,J Y s.c.p,J Y s.c.c,J au s.c.l,ν s.c.h,J Y s.c.n,J Q s.w])] w λe w'=>e=μ (J Q 0)/\Below w.heap.size w w':=by
 go_enter func117,ntmps117;go_wp2;go_ret;exact⟨D,stA (aR _) _⟩
theorem zsQ(s:Sd)(w:u)(h:s.w<0 \/ 15<s.w):Δ ω 117 #[(ac #[J Y s.a.p,J Y s.a.c,J au s.a.l,ν s.a.h,J Y s.a.n,J Y s.b.p,J Y s.b.c,J au s.b.l,ν s.b.h,J Y s.b.n,J Y s.c.p,J Y s.c.c,J au s.c.l,ν s.c.h,J Y s.c.n,J Q s.w])] w λe w'=>e=μ (J Q 3)/\Below w.heap.size w w':=by
 rcases h with h|h
 ·go_enter func117,ntmps117
  go_wp2;go_ret;exact⟨D,stA (aR _) _⟩
 ·have d:¬ s.w<0:=by omega
  go_enter func117,ntmps117;go_wp2;go_ret;exact⟨D,stA (aR _) _⟩
theorem yE(a x1 x2 x3 b c d e f g h i j k l:π)(w:u):(aK 34 (ac #[a,x1,x2,x3,b,c,d,e,f,g,h,i,j,k,l]) (J Q 0)).run ω w=.ok (ac #[a,x1,x2,x3,b]) w:=by kernel_rfl
theorem yF(f x1 x2 x3 g a b c d e h i j k l:π)(w:u):(aK 34 (ac #[f,x1,x2,x3,g,a,b,c,d,e,h,i,j,k,l]) (J Q 1)).run ω w=.ok (ac #[a,b,c,d,e]) w:=by kernel_rfl
theorem yH(f x1 x2 x3 g h i j k l a b c d e:π)(w:u):(aK 34 (ac #[f,x1,x2,x3,g,h,i,j,k,l,a,b,c,d,e]) (J Q 2)).run ω w=.ok (ac #[a,b,c,d,e]) w:=by kernel_rfl
theorem sN(l:Int)(h:0<=l/\l<=255):bits .and au l 15=l%16:=by
 obtain⟨X,a⟩:=aA h.1;subst a;rw[show (15:Int)=((15:Nat):Int) from D,mC _ _ (by omega) (by omega)];have:=fE X 4;simp only[Nat.reducePow,Nat.reduceSub] at this;rw[this];omega
theorem tj{v:Vc}(h:v.h=Γ):ld v=v.l%16:=by unfold ld;rw[h];rfl
theorem tn{v:Vc}(h:v.h=ξ):ld v=0:=by unfold ld;rw[h];rfl
theorem zq6(s:Sd)(w:u)(h:s.ok):Δ ω 119 #[(ac #[J Y s.a.p,J Y s.a.c,J au s.a.l,ν s.a.h,J Y s.a.n,J Y s.b.p,J Y s.b.c,J au s.b.l,ν s.b.h,J Y s.b.n,J Y s.c.p,J Y s.c.c,J au s.c.l,ν s.c.h,J Y s.c.n])] w λe w'=>e=μ (J au (pK s))/\Below w.heap.size w w':=by
 have a0:=sN _ h.a.l;have a1:=sN _ h.b.l;have a2:=sN _ h.c.l;have i0:=yE;have m:=yF;have i2:=yH;have j:=oE s.a;have lb:=oE s.b;have k:=oE s.c;have o:=hid j;have LB:=hid lb;have LC:=hid k;go_enter func119,ntmps119;go_wp2;go_loopw [3,7] (λx i wr=>Below w.heap.size w wr/\((i=J Q 0/\x=J au 0) \/ (i=J Q 1/\x=J au (ld s.a)) \/ (i=J Q 2/\x=J au (ld s.a+ld s.b)) \/ (i=J Q 3/\x=J au (pK s)))) (λ_ i _=>3-(intOf i).toNat)
 case atStart=>exact⟨stA (aR _) _,aj ⟨D,D⟩⟩
 case round =>
  obtain⟨hB,f⟩:=hrel;have g:=hid hB;clear hB;rcases f with⟨rfl,rfl⟩|⟨rfl,rfl⟩|⟨rfl,rfl⟩|⟨rfl,rfl⟩
  ·cases d:s.a.h
   ·have e:=tn d
    go_wp2;refine⟨⟨stA g.out _,ao (aj ⟨D,?_⟩)⟩,by decide⟩;first|rfl|rw[e]
   ·have e:=tj d
    go_wp2;refine⟨⟨stA g.out _,ao (aj ⟨D,?_⟩)⟩,by decide⟩;first|rfl|rw[e]|(rw[e];simp)
  ·cases d:s.b.h
   ·have e:=tn d
    go_wp2;refine⟨⟨stA g.out _,ao (ao (aj ⟨D,?_⟩))⟩,by decide⟩;first|rfl|(rw[e];simp)
   ·have e:=tj d
    go_wp2;refine⟨⟨stA g.out _,ao (ao (aj ⟨D,?_⟩))⟩,by decide⟩;first|rfl|rw[e]|(rw[e];simp)
  ·cases d:s.c.h
   ·have e:=tn d
    go_wp2;refine⟨⟨stA g.out _,ao (ao (ao ⟨D,?_⟩))⟩,by decide⟩;first|rfl|(unfold pK;rw[e];simp)
   ·have e:=tj d
    go_wp2;refine⟨⟨stA g.out _,ao (ao (ao ⟨D,?_⟩))⟩,by decide⟩;first|rfl|(unfold pK;rw[e])|(unfold pK;rw[e];simp)
  ·go_wp2
   go_ret;exact⟨D,g.out⟩
abbrev lz(s:Sd):List π:=[J Y s.a.p,J Y s.a.c,J au s.a.l,ν s.a.h,J Y s.a.n,J Y s.b.p,J Y s.b.c,J au s.b.l,ν s.b.h,J Y s.b.n,J Y s.c.p,J Y s.c.c,J au s.c.l,ν s.c.h,J Y s.c.n,J Q s.w]
abbrev zs:List π:=[J Y 0,J Y 0,J au 0,ν ξ,J Y 0,J Y 0,J Y 0,J au 0,ν ξ,J Y 0,J Y 0,J Y 0,J au 0,ν ξ,J Y 0,J Q 0]
theorem zpS{w w':u}{B n:Nat}{v:π}{xs:List π}(h:w.ownsRow B 5 1 v n xs)(hb:Below w.heap.size w w'):w'.ownsRow B 5 1 v n xs:=zfu h (λk a=>hb.block k (h.lt k a).2)
theorem zsS{w:u}{B n b o:Nat}{v:π}{xs:List π}(h:w.ownsRow B 5 1 v n xs)(hb:b<B)(x:π):(w.setCell ⟨b,o,G⟩ x).ownsRow B 5 1 v n xs:=zfu h (λk a=>by
 have:=h.lt k a;exact cF w ⟨b,o,G⟩ x k (show k≠b by omega))
theorem Ar{B n b:Nat}{v:π}{xs:List π}(hb:b<B):∀(vs:List π) (o:Nat) {w:u},w.ownsRow B 5 1 v n xs->(w.setCells b o vs).ownsRow B 5 1 v n xs
 | [],o,w,h=>h
 | x::vs,o,w,h=>Ar hb vs (o+1) (zsS h hb x)
theorem zvT{w w':u}{B:Nat}{x:Option Nat}(h:w.grownBy w' x)(hB:B<=w.heap.size)(a:∀ k,x=A k->B<=k):Below B w w':=(bq B w).grown h hB a
theorem app1{ops:Array Oper}{rest:List Oper}{o:Oper}{a:Act}{w:u}{η:Exit->Act->u->Prop}(i:o.guard=G)(s x:Operand)(r:o.op=.call { callee:=.builtin .append,args:=#[s,x],argTypes:=#[26,26] })
 (B:Nat) (v:π) (xs:List UInt8) (t:a.eval s=v) (b:w.ownsRow B 5 1 v xs.length (gJ xs)) (g c:Nat) (y:UInt8) (z:Int) (E:a.eval x=κ (A ⟨g,0,G⟩) 1 c) (hc:w.cell? ⟨g,0,G⟩=A (J au z)) (F:z=y.toNat) (I:xs.length<=50000) (hB:B<=w.heap.size)
 (h:∀ v' w',w'.ownsRow B 5 1 v' (xs++[y]).length (gJ (xs++[y]))->Below B w w'->wpList ω ops η rest (a.put o.dst v') w'):wpList ω ops η (o::rest) a w:=by
 obtain⟨i0,l,m,n,p⟩:=info_parts Aq;subst F;refine oQ _ i s x _ r B 5 i0 _ 1 1 underlying26 l m n p D (by omega) v xs.length (gJ xs) t b ⟨g,0,G⟩ 1 c [J au y.toNat] E D (λj θ f=>?_) (λθ q=>?_) (by unfold maxLen;omega) (by omega) hB ?_
 ·match j,f with
  | 0,f =>
   simp only[bv,aZ] at f;rw[<- f,addr_add];exact hc
 ·simp only[dD] at q;rw[q];rfl
 ·intro v' w' d e _
  refine h _ w' ?_ (zvT e hB (λk H=>(b.lt k H).1));rw[az,<- ze5];exact d
theorem zq7:(Tryz.prog.info? 34).map (·.size)=A 15:=by kernel_rfl
theorem nh:(Tryz.prog.info? 36).map (·.size)=A 16:=by kernel_rfl
theorem zd0:Tryz.prog.underlying 34=A (.array 3 33):=by kernel_rfl
theorem xF{W:u}{b:Nat}{x:Sd}(h:Bx W b (lz x)):(Instr.loadAt 34 (.pointer (A ⟨b,0,G⟩))).run ω W=.ok (ac #[J Y x.a.p,J Y x.a.c,J au x.a.l,ν x.a.h,J Y x.a.n,J Y x.b.p,J Y x.b.c,J au x.b.l,ν x.b.h,J Y x.b.n,J Y x.c.p,J Y x.c.c,J au x.c.l,ν x.c.h,J Y x.c.n]) W :=
 run_loadAt_mid W b 0 34 _ _ (h.mid 0 15) zd0 rfl zq7
theorem pR{W:u}{b:Nat}{x:Sd}(h:Bx W b (lz x)):(loadVar 36 ⟨b,0,G⟩).run ω W=.ok (ac #[J Y x.a.p,J Y x.a.c,J au x.a.l,ν x.a.h,J Y x.a.n,J Y x.b.p,J Y x.b.c,J au x.b.l,ν x.b.h,J Y x.b.n,J Y x.c.p,J Y x.c.c,J au x.c.l,ν x.c.h,J Y x.c.n,J Q x.w]) W :=
 run_loadVar_mid W b 0 36 _ _ h.c underlying36 rfl nh
structure SmW (w : u) (x : Sd) (l : List UInt8) (v : π) (W : u) : Prop where
 low:Below w.heap.size w W
 b:Bx W w.heap.size (lz x)
 r:Bx W (w.heap.size+1) zs
 o:W.ownsRow (w.heap.size+2) 5 1 v l.length (gJ l)
section
variable {w W w1 : u} {x : Sd} {l : List UInt8} {v : π}
theorem SmW.kept(h:SmW w x l v W)(hb:Below W.heap.size W w1):SmW w x l v w1:=⟨bw h.low hb,h.b.kept hb,h.r.kept hb,zpS h.o hb⟩
theorem SmW.over(h:SmW w x l v W)(o:Obj):SmW w x l v (W.alloc o):=h.kept (stA (aR W) o)
theorem SmW.app(h:SmW w x l v W){a:List UInt8}{v':π}(hb:Below (w.heap.size+2) W w1)(c:w1.ownsRow (w.heap.size+2) 5 1 v' a.length (gJ a)):SmW w x a v' w1:=⟨h.low.trans (hb.mono (by omega)),h.b.under hb (by omega),h.r.under hb (by omega),c⟩
theorem SmW.wait(h:SmW w x l v W)(z:Int):SmW w ⟨x.a,x.b,x.c,z⟩ l v (W.setCell ⟨w.heap.size,15,G⟩ (J Q z)):=⟨Bl.set h.low (ψ _) _,h.b.set 15 _ (by simp),h.r.far (by omega) _,zsS h.o (by omega) _⟩
theorem SmW.v0(h:SmW w x l v W)(y:Vc):SmW w ⟨y,x.b,x.c,x.w⟩ l v (((((W.setCell ⟨w.heap.size,0,G⟩ (J Y y.p)).setCell ⟨w.heap.size,1,G⟩ (J Y y.c)).setCell ⟨w.heap.size,2,G⟩ (J au y.l)).setCell ⟨w.heap.size,3,G⟩ (ν y.h)).setCell ⟨w.heap.size,4,G⟩ (J Y y.n)) :=
 ⟨Bl.puts (o:=0) h.low (ψ _) (sV y),h.b.puts 0 (sV y) (by simp),h.r.fars (by omega) 0 (sV y),Ar (by omega) (sV y) 0 h.o⟩
theorem SmW.v1(h:SmW w x l v W)(y:Vc):SmW w ⟨x.a,y,x.c,x.w⟩ l v (((((W.setCell ⟨w.heap.size,5,G⟩ (J Y y.p)).setCell ⟨w.heap.size,6,G⟩ (J Y y.c)).setCell ⟨w.heap.size,7,G⟩ (J au y.l)).setCell ⟨w.heap.size,8,G⟩ (ν y.h)).setCell ⟨w.heap.size,9,G⟩ (J Y y.n)) :=
 ⟨Bl.puts (o:=5) h.low (ψ _) (sV y),h.b.puts 5 (sV y) (by simp),h.r.fars (by omega) 5 (sV y),Ar (by omega) (sV y) 5 h.o⟩
theorem SmW.v2(h:SmW w x l v W)(y:Vc):SmW w ⟨x.a,x.b,y,x.w⟩ l v (((((W.setCell ⟨w.heap.size,10,G⟩ (J Y y.p)).setCell ⟨w.heap.size,11,G⟩ (J Y y.c)).setCell ⟨w.heap.size,12,G⟩ (J au y.l)).setCell ⟨w.heap.size,13,G⟩ (ν y.h)).setCell ⟨w.heap.size,14,G⟩ (J Y y.n)) :=
 ⟨Bl.puts (o:=10) h.low (ψ _) (sV y),h.b.puts 10 (sV y) (by simp),h.r.fars (by omega) 10 (sV y),Ar (by omega) (sV y) 10 h.o⟩
theorem SmW.w15(h:SmW w x l v W):W.cell? ⟨w.heap.size,15,G⟩=A (J Q x.w):=h.b.at 15 _ rfl
end
theorem ztM{s x:Sd}{k mN:Nat}{L:List UInt8}{m:Int}(f:s.ticks k=x)(g:lB s k=L)(d:x.fit)(e:(mN:Int)=m)(h1:1<=m)(h2:m<=wt x):s.ticks (k+mN)=⟨x.a.later m,x.b.later m,x.c.later m,wt x-m⟩/\lB s (k+mN)=L++one x:=by
 subst e f g;rw[<- Sd.ticks_add,Ap,<- Sd.go_ticks d mN (by omega) h2,(Sd.near d mN (by omega) h2).2];exact⟨D,D⟩
theorem Sd.fit.k{s:Sd}(h:s.fit):s.ok:=⟨h.a,h.b,h.c⟩
abbrev AC(x:Sd)(W:u)(b:Nat):Prop:=W.cell? ⟨b,0,G⟩=A (J Y x.a.p)/\W.cell? ⟨b,1,G⟩=A (J Y x.a.c)/\W.cell? ⟨b,2,G⟩=A (J au x.a.l)/\W.cell? ⟨b,3,G⟩=A (ν x.a.h)/\W.cell? ⟨b,4,G⟩=A (J Y x.a.n)/\W.cell? ⟨b,5,G⟩=A (J Y x.b.p)/\W.cell? ⟨b,6,G⟩=A (J Y x.b.c)/\W.cell? ⟨b,7,G⟩=A (J au x.b.l)/\W.cell? ⟨b,8,G⟩=A (ν x.b.h)/\W.cell? ⟨b,9,G⟩=A (J Y x.b.n)/\W.cell? ⟨b,10,G⟩=A (J Y x.c.p)/\W.cell? ⟨b,11,G⟩=A (J Y x.c.c)/\W.cell? ⟨b,12,G⟩=A (J au x.c.l)/\W.cell? ⟨b,13,G⟩=A (ν x.c.h)/\W.cell? ⟨b,14,G⟩=A (J Y x.c.n)/\W.cell? ⟨b,15,G⟩=A (J Q x.w)
theorem AC.of{W:u}{b:Nat}{x:Sd}(h:Bx W b (lz x)):AC x W b:=⟨h.at 0 _ rfl,h.at 1 _ rfl,h.at 2 _ rfl,h.at 3 _ rfl,h.at 4 _ rfl,h.at 5 _ rfl,h.at 6 _ rfl,h.at 7 _ rfl,h.at 8 _ rfl,h.at 9 _ rfl,h.at 10 _ rfl,h.at 11 _ rfl,h.at 12 _ rfl,h.at 13 _ rfl,h.at 14 _ rfl,h.at 15 _ rfl⟩
theorem SmW.all{w W:u}{x:Sd}{l:List UInt8}{v:π}(h:SmW w x l v W):AC x W w.heap.size :=
 AC.of h.b
theorem SmW.allr{w W:u}{x:Sd}{l:List UInt8}{v:π}(h:SmW w x l v W):W.cell? ⟨w.heap.size+1,0,G⟩=A (J Y 0)/\W.cell? ⟨w.heap.size+1,1,G⟩=A (J Y 0)/\W.cell? ⟨w.heap.size+1,2,G⟩=A (J au 0)/\W.cell? ⟨w.heap.size+1,3,G⟩=A (ν ξ)/\W.cell? ⟨w.heap.size+1,4,G⟩=A (J Y 0)/\W.cell? ⟨w.heap.size+1,5,G⟩=A (J Y 0)/\W.cell? ⟨w.heap.size+1,6,G⟩=A (J Y 0)/\W.cell? ⟨w.heap.size+1,7,G⟩=A (J au 0)/\W.cell? ⟨w.heap.size+1,8,G⟩=A (ν ξ)/\W.cell? ⟨w.heap.size+1,9,G⟩=A (J Y 0)/\W.cell? ⟨w.heap.size+1,10,G⟩=A (J Y 0)/\W.cell? ⟨w.heap.size+1,11,G⟩=A (J Y 0)/\W.cell? ⟨w.heap.size+1,12,G⟩=A (J au 0)/\W.cell? ⟨w.heap.size+1,13,G⟩=A (ν ξ)/\W.cell? ⟨w.heap.size+1,14,G⟩=A (J Y 0)/\W.cell? ⟨w.heap.size+1,15,G⟩=A (J Q 0) :=
 ⟨h.r.at 0 _ rfl,h.r.at 1 _ rfl,h.r.at 2 _ rfl,h.r.at 3 _ rfl,h.r.at 4 _ rfl,h.r.at 5 _ rfl,h.r.at 6 _ rfl,h.r.at 7 _ rfl,h.r.at 8 _ rfl,h.r.at 9 _ rfl,h.r.at 10 _ rfl,h.r.at 11 _ rfl,h.r.at 12 _ rfl,h.r.at 13 _ rfl,h.r.at 14 _ rfl,h.r.at 15 _ rfl⟩
theorem SmW.alls{w W:u}{x:Sd}{l:List UInt8}{v:π}(h:SmW w x l v W)(y:Sd):AC x (W.setCells (w.heap.size+1) 0 (lz y)) w.heap.size :=
 AC.of (h.b.fars (b':=w.heap.size+1) (by omega) 0 (lz y))
theorem SmW.drew{w W:u}{x:Sd}{l:List UInt8}{v:π}(h:SmW w x l v W):SmW w x l v W.drew:=⟨h.low.drew,h.b.drew,h.r.drew,zpS h.o (aR W).drew⟩
theorem SmW.alls'{w W:u}{x:Sd}{l:List UInt8}{v:π}(h:SmW w x l v W)(y:Sd):AC x (W.setCells (w.heap.size+1) 0 (lz y)).drew w.heap.size :=
 AC.of (h.b.fars (b':=w.heap.size+1) (by omega) 0 (lz y)).drew
theorem qT(W:u)(b:Nat)(x:Sd):((((((((((((((((W.setCell ⟨b,0,G⟩ (J Y x.a.p)).setCell ⟨b,1,G⟩ (J Y x.a.c)).setCell ⟨b,2,G⟩ (J au x.a.l)).setCell ⟨b,3,G⟩ (ν x.a.h)).setCell ⟨b,4,G⟩ (J Y x.a.n)).setCell ⟨b,5,G⟩ (J Y x.b.p)).setCell ⟨b,6,G⟩ (J Y x.b.c)).setCell ⟨b,7,G⟩ (J au x.b.l)).setCell ⟨b,8,G⟩ (ν x.b.h)).setCell ⟨b,9,G⟩ (J Y x.b.n)).setCell ⟨b,10,G⟩ (J Y x.c.p)).setCell ⟨b,11,G⟩ (J Y x.c.c)).setCell ⟨b,12,G⟩ (J au x.c.l)).setCell ⟨b,13,G⟩ (ν x.c.h)).setCell ⟨b,14,G⟩ (J Y x.c.n)).setCell ⟨b,15,G⟩ (J Q x.w))=W.setCells b 0 (lz x):=rfl
theorem sliceAt.drew{W:u}{v:π}{l:List UInt8}(h:sliceAt W v l):sliceAt W.drew v l:=h
theorem Bx.six{W:u}{b:Nat}{x:Sd}(h:Bx W b (lz x)):W.cell? ⟨b,0,G⟩=A (J Y x.a.p)/\W.cell? ⟨b,1,G⟩=A (J Y x.a.c)/\W.cell? ⟨b,2,G⟩=A (J au x.a.l)/\W.cell? ⟨b,3,G⟩=A (ν x.a.h)/\W.cell? ⟨b,4,G⟩=A (J Y x.a.n)/\W.cell? ⟨b,5,G⟩=A (J Y x.b.p)/\W.cell? ⟨b,6,G⟩=A (J Y x.b.c)/\W.cell? ⟨b,7,G⟩=A (J au x.b.l)/\W.cell? ⟨b,8,G⟩=A (ν x.b.h)/\W.cell? ⟨b,9,G⟩=A (J Y x.b.n)/\W.cell? ⟨b,10,G⟩=A (J Y x.c.p)/\W.cell? ⟨b,11,G⟩=A (J Y x.c.c)/\W.cell? ⟨b,12,G⟩=A (J au x.c.l)/\W.cell? ⟨b,13,G⟩=A (ν x.c.h)/\W.cell? ⟨b,14,G⟩=A (J Y x.c.n)/\W.cell? ⟨b,15,G⟩=A (J Q x.w) :=
 ⟨h.at 0 _ rfl,h.at 1 _ rfl,h.at 2 _ rfl,h.at 3 _ rfl,h.at 4 _ rfl,h.at 5 _ rfl,h.at 6 _ rfl,h.at 7 _ rfl,h.at 8 _ rfl,h.at 9 _ rfl,h.at 10 _ rfl,h.at 11 _ rfl,h.at 12 _ rfl,h.at 13 _ rfl,h.at 14 _ rfl,h.at 15 _ rfl⟩
theorem nJ{W:u}{b:Nat}(h:Bx W b zs):W.there b 0 16:=h.there 0 16 (by simp)
theorem kH(x:Sd):(#[J Y x.a.p,J Y x.a.c,J au x.a.l,ν x.a.h,J Y x.a.n,J Y x.b.p,J Y x.b.c,J au x.b.l,ν x.b.h,J Y x.b.n,J Y x.c.p,J Y x.c.c,J au x.c.l,ν x.c.h,J Y x.c.n,J Q x.w]:Array π).all (·.oneCell')=Γ:=by simp[Value.oneCell']
theorem zn0(v:Vc)(w:u)(h:v.ok):Δ ω 152 #[(ac #[J Y v.p,J Y v.c,J au v.l,ν v.h,J Y v.n])] w λe w'=>e=μ (ac #[J Y (v.tick).p,J Y (v.tick).c,J au (v.tick).l,ν (v.tick).h,J Y (v.tick).n])/\Below w.heap.size w w':=by
 have hc:=h.c;have d:=h.n;by_cases a:v.c=0
 ·have hb:¬ (0<v.c):=by omega
  by_cases h1:v.n=0
  ·have e:v.tick=⟨v.p,v.p,v.l,!v.h,v.n⟩:=by unfold Vc.tick wU tU;rw[am a,am h1,am h1,h1]
   rw[e];have b:=hid a;have e1:(v.n == 0)=Γ:=by simpa using h1
   clear a e h1;go_enter func152,ntmps152;go_wp2;refine Ξ (v:=.agg _) (by simp[results,results152,go_sem]) D ⟨D,?_⟩;exact(stA (stA (aR _) _) _)
  ·have e1:(v.n == 0)=ξ:=by simpa using h1
   by_cases h2:v.n%2=1
   ·have e:v.tick=⟨v.p,v.p,v.l,Γ,bits .xor Y (v.n/2) 46080⟩:=by unfold Vc.tick wU tU nz;rw[am a,ae h1,ae h1,am h2,aO h2]
    rw[e];have b:=hid a;have e2:(v.n%2 == 1)=Γ:=by simpa using h2
    have e3:v.n.tdiv 2=v.n/2:=aF (by omega);have e4:IntKind.u16.wrap (v.n/2)=v.n/2:=by rw[bj];omega
    clear a e h1 h2;go_enter func152,ntmps152;go_wp2;refine Ξ (v:=.agg _) (by simp[results,results152,go_sem]) D ⟨D,?_⟩;exact(stA (stA (aR _) _) _)
   ·have e:v.tick=⟨v.p,v.p,v.l,ξ,v.n/2⟩:=by unfold Vc.tick wU tU nz;rw[am a,ae h1,ae h1,ae h2,aG h2]
    rw[e];have b:=hid a;have e2:(v.n%2 == 1)=ξ:=by simpa using h2
    have e3:v.n.tdiv 2=v.n/2:=aF (by omega);have e4:IntKind.u16.wrap (v.n/2)=v.n/2:=by rw[bj];omega
    clear a e h1 h2;go_enter func152,ntmps152;go_wp2;refine Ξ (v:=.agg _) (by simp[results,results152,go_sem]) D ⟨D,?_⟩;exact(stA (stA (aR _) _) _)
 ·have e:v.tick=⟨v.p,v.c-1,v.l,v.h,v.n⟩:=by unfold Vc.tick;rw[ae a]
  rw[e];have hb:0<v.c:=by omega
  clear e a;go_enter func152,ntmps152;go_wp2;refine Ξ (v:=.agg _) (by simp[results,results152,go_sem]) D ⟨D,?_⟩;exact(stA (stA (aR _) _) _)
theorem zn1(s:Sd)(w:u)(h:s.ok):Δ ω 72 #[(ac #[J Y s.a.p,J Y s.a.c,J au s.a.l,ν s.a.h,J Y s.a.n,J Y s.b.p,J Y s.b.c,J au s.b.l,ν s.b.h,J Y s.b.n,J Y s.c.p,J Y s.c.c,J au s.c.l,ν s.c.h,J Y s.c.n,J Q s.w])] w λe w'=>e=μ (J au (pK s))/\Below w.heap.size w w':=by
 have j:=oE s.a;have lb:=oE s.b;have k:=oE s.c;have q0:=h.a.l;have q1:=h.b.l;have m:=h.c.l;have i0:=yE;have o:=yF;have i2:=yH;go_enter func72,ntmps72;go_wp2;go_loopw [3,8] (λx i wr=>Below w.heap.size w wr/\((i=J Q 0/\x=J Q 0) \/ (i=J Q 1/\x=J Q (ld s.a)) \/ (i=J Q 2/\x=J Q (ld s.a+ld s.b)) \/ (i=J Q 3/\x=J Q (pK s)))) (λ_ i _=>3-(intOf i).toNat)
 case atStart=>exact⟨stA (aR _) _,aj ⟨D,D⟩⟩
 case round =>
  obtain⟨hB,f⟩:=hrel;have g:=hid hB;clear hB;rcases f with⟨rfl,rfl⟩|⟨rfl,rfl⟩|⟨rfl,rfl⟩|⟨rfl,rfl⟩
  ·cases d:s.a.h
   ·have e:=tn d
    go_wp2;refine⟨⟨stA g.out _,ao (aj ⟨D,?_⟩)⟩,by decide⟩;first|rfl|rw[e]
   ·have e:=tj d
    go_wp2;refine⟨⟨stA g.out _,ao (aj ⟨D,?_⟩)⟩,by decide⟩;first|rfl|rw[e]|(rw[e];simp)
  ·cases d:s.b.h
   ·have e:=tn d
    go_wp2;refine⟨⟨stA g.out _,ao (ao (aj ⟨D,?_⟩))⟩,by decide⟩;first|rfl|(rw[e];simp)
   ·have e:=tj d
    go_wp2;refine⟨⟨stA g.out _,ao (ao (aj ⟨D,?_⟩))⟩,by decide⟩;first|rfl|rw[e]|(rw[e];simp)
  ·cases d:s.c.h
   ·have e:=tn d
    go_wp2;refine⟨⟨stA g.out _,ao (ao (ao ⟨D,?_⟩))⟩,by decide⟩;first|rfl|(unfold pK;rw[e];simp)
   ·have e:=tj d
    go_wp2;refine⟨⟨stA g.out _,ao (ao (ao ⟨D,?_⟩))⟩,by decide⟩;first|rfl|(unfold pK;rw[e])|(unfold pK;rw[e];simp)
  ·have q:=zxV s
   go_wp2;go_ret;exact⟨D,g.out⟩
theorem zrr(s:Sd)(w:u)(h:s.fit):Δ ω 76 #[(ac #[J Y s.a.p,J Y s.a.c,J au s.a.l,ν s.a.h,J Y s.a.n,J Y s.b.p,J Y s.b.c,J au s.b.l,ν s.b.h,J Y s.b.n,J Y s.c.p,J Y s.c.c,J au s.c.l,ν s.c.h,J Y s.c.n,J Q s.w])] w λe w'=>e=μ (ac #[J Y (s.tick).a.p,J Y (s.tick).a.c,J au (s.tick).a.l,ν (s.tick).a.h,J Y (s.tick).a.n,J Y (s.tick).b.p,J Y (s.tick).b.c,J au (s.tick).b.l,ν (s.tick).b.h,J Y (s.tick).b.n,J Y (s.tick).c.p,J Y (s.tick).c.c,J au (s.tick).c.l,ν (s.tick).c.h,J Y (s.tick).c.n,J Q (s.tick).w])/\Below w.heap.size w w':=by
 have X:=h.w;go_enter func76,ntmps76;go_wp2;go_loopw [4] (λi wr=>(i=J Q 0/\SmW w s [] (κ G 0 0) wr) \/ (i=J Q 1/\SmW w ⟨s.a.tick,s.b,s.c,s.w⟩ [] (κ G 0 0) wr) \/ (i=J Q 2/\SmW w ⟨s.a.tick,s.b.tick,s.c,s.w⟩ [] (κ G 0 0) wr) \/ (i=J Q 3/\SmW w ⟨s.a.tick,s.b.tick,s.c.tick,s.w⟩ [] (κ G 0 0) wr)) (λi _=>3-(intOf i).toNat)
 case atStart=>exact aj ⟨D,stA (stA (aR w) _) _,(Bx.new w (lz s) _ D).over _,Bx.new _ zs _ (by simp),⟨D,aj ⟨D,D⟩⟩⟩
 case round =>
  rcases hrel with⟨rfl,g⟩|⟨rfl,g⟩|⟨rfl,g⟩|⟨rfl,g⟩
  ·obtain⟨c0,c1,c2,c3,c4,c5,M,N,P,c9,o,q,t,x,y,m⟩:=g.b.six
   have L:=g.b.z;have tf:=g.b.f;have F:=hid g;clear g;go_wp2_with (go_at_call 152;refine(zn0 s.a _ h.a).mono ?_;rintro e V ⟨rfl,B⟩;have d:=hid (F.out.kept B);obtain⟨c0,c1,c2,c3,c4,c5,M,N,P,c9,o,q,t,x,y,m⟩:=d.out.b.six;have L:=d.out.b.z;have tf:=d.out.b.f)
   exact⟨ao (aj ⟨D,d.out.v0 _⟩),by decide⟩
  ·obtain⟨c0,c1,c2,c3,c4,c5,M,N,P,c9,o,q,t,x,y,m⟩:=g.b.six
   have L:=g.b.z;have tf:=g.b.f;have F:=hid g;clear g;go_wp2_with (go_at_call 152;refine(zn0 s.b _ h.b).mono ?_;rintro e V ⟨rfl,B⟩;have d:=hid (F.out.kept B);obtain⟨c0,c1,c2,c3,c4,c5,M,N,P,c9,o,q,t,x,y,m⟩:=d.out.b.six;have L:=d.out.b.z;have tf:=d.out.b.f)
   exact⟨ao (ao (aj ⟨D,d.out.v1 _⟩)),by decide⟩
  ·obtain⟨c0,c1,c2,c3,c4,c5,M,N,P,c9,o,q,t,x,y,m⟩:=g.b.six
   have L:=g.b.z;have tf:=g.b.f;have F:=hid g;clear g;go_wp2_with (go_at_call 152;refine(zn0 s.c _ h.c).mono ?_;rintro e V ⟨rfl,B⟩;have d:=hid (F.out.kept B);obtain⟨c0,c1,c2,c3,c4,c5,M,N,P,c9,o,q,t,x,y,m⟩:=d.out.b.six;have L:=d.out.b.z;have tf:=d.out.b.f)
   exact⟨ao (ao (ao ⟨D,d.out.v2 _⟩)),by decide⟩
  ·have m:=g.w15
   have L:=g.b.z;have tf:=g.b.f;have F:=hid g;clear g;by_cases R:s.w=0
   ·have T:Hid (s.tick=⟨s.a.tick,s.b.tick,s.c.tick,15⟩):=by unfold Sd.tick;rw[am R];trivial
    have Z:=hid R;rw[R] at m;clear R;have E:=hid ((F.out.wait (-1)).wait 15);go_wp2_with (first
     | (refine wpList_load_mid D 36 _ D w.heap.size 0 D (lz ⟨s.a.tick,s.b.tick,s.c.tick,15⟩) _ E.out.b.c underlying36 D nh ?_)
     | (refine wpList_store_mid D 36 _ _ D (w.heap.size+1) 0 _ D D (nJ E.out.r) nh (kH _) ?_
        refine Pl.cutL (λW=>Below w.heap.size w W/\Bx W (w.heap.size+1) (lz s.tick)) ⟨?_,?_⟩ ?_
        ·exact Bl.puts E.out.low (fH _) _
        ·rw[T.out];exact E.out.r.puts 0 (lz ⟨s.a.tick,s.b.tick,s.c.tick,15⟩) (by simp)
        rintro W ⟨j,k⟩;have H:=hid j;have I:=hid k;clear j k))
    have U:=pR I.out;exact Ξ (v:=(ac #[J Y (s.tick).a.p,J Y (s.tick).a.c,J au (s.tick).a.l,ν (s.tick).a.h,J Y (s.tick).a.n,J Y (s.tick).b.p,J Y (s.tick).b.c,J au (s.tick).b.l,ν (s.tick).b.h,J Y (s.tick).b.n,J Y (s.tick).c.p,J Y (s.tick).c.c,J au (s.tick).c.l,ν (s.tick).c.h,J Y (s.tick).c.n,J Q (s.tick).w])) (by simp only[results,results76];simp;exact U) D ⟨D,H.out⟩
   ·have T:Hid (s.tick=⟨s.a.tick,s.b.tick,s.c.tick,s.w-1⟩):=by unfold Sd.tick;rw[ae R];trivial
    have h1:¬ (s.w-1<0):=by omega
    have E:=hid (F.out.wait (s.w-1));go_wp2_with (first
     | (refine wpList_load_mid D 36 _ D w.heap.size 0 D (lz ⟨s.a.tick,s.b.tick,s.c.tick,s.w-1⟩) _ E.out.b.c underlying36 D nh ?_)
     | (refine wpList_store_mid D 36 _ _ D (w.heap.size+1) 0 _ D D (nJ E.out.r) nh (kH _) ?_
        refine Pl.cutL (λW=>Below w.heap.size w W/\Bx W (w.heap.size+1) (lz s.tick)) ⟨?_,?_⟩ ?_
        ·exact Bl.puts E.out.low (fH _) _
        ·rw[T.out];exact E.out.r.puts 0 (lz ⟨s.a.tick,s.b.tick,s.c.tick,s.w-1⟩) (by simp)
        rintro W ⟨j,k⟩;have H:=hid j;have I:=hid k;clear j k))
    have U:=pR I.out;exact Ξ (v:=(ac #[J Y (s.tick).a.p,J Y (s.tick).a.c,J au (s.tick).a.l,ν (s.tick).a.h,J Y (s.tick).a.n,J Y (s.tick).b.p,J Y (s.tick).b.c,J au (s.tick).b.l,ν (s.tick).b.h,J Y (s.tick).b.n,J Y (s.tick).c.p,J Y (s.tick).c.c,J au (s.tick).c.l,ν (s.tick).c.h,J Y (s.tick).c.n,J Q (s.tick).w])) (by simp only[results,results76];simp;exact U) D ⟨D,H.out⟩
theorem zcU(a:Int)(w:u)(h:0<=a/\a<=65535):Δ ω 209 #[J Y a] w λe w'=>e=μ (.tuple #[J au (a/256),J au (a%256)])/\w=w':=by
 go_enter func209,ntmps209;go_wp2
 go_ret2
 exact⟨D,D⟩
theorem As(a b:Int)(w:u)(c:0<=a/\a<=255)(hb:0<=b/\b<=255):Δ ω 211 #[J au a,J au b] w λe w'=>e=μ (J Y (a*256+b))/\w=w':=by
 have e:=M.joined a b c.1 c.2 hb.1 hb.2;go_enter func211,ntmps211;go_wp2;go_ret;exact⟨by first|rfl|(simp[e];done)|(rw[e]),D⟩
theorem zpT(a b:Int)(w:u)(c:0<=a/\a<=65535)(hb:0<=b/\b<=255):Δ ω 347 #[J Y a,J au b] w λe w'=>e=μ (J Y (b*256+a%256))/\w=w':=by
 go_enter func347,ntmps347;go_wp2_with (first
  | (go_at_call 209;refine(zcU a _ c).mono ?_;rintro e w1 ⟨rfl,rfl⟩)
  | (go_at_call 211;refine(As b (a%256) _ hb ⟨by omega,by omega⟩).mono ?_;rintro e w1 ⟨rfl,rfl⟩))
 go_ret;exact⟨D,D⟩
theorem zsT(a b:Int)(w:u)(c:0<=a/\a<=65535)(hb:0<=b/\b<=255):Δ ω 349 #[J Y a,J au b] w λe w'=>e=μ (J Y (a/256*256+b))/\w=w':=by
 go_enter func349,ntmps349;go_wp2_with (first
  | (go_at_call 209;refine(zcU a _ c).mono ?_;rintro e w1 ⟨rfl,rfl⟩)
  | (go_at_call 211;refine(As (a/256) b _ ⟨by omega,by omega⟩ hb).mono ?_;rintro e w1 ⟨rfl,rfl⟩))
 go_ret;exact⟨D,D⟩
def Vc.put(v:Vc)(k:Nat)(b:Int):Vc :=
 if k=0 then ⟨b*256+v.p%256,v.c,v.l,v.h,v.n⟩ else if k=1 then ⟨v.p/256*256+b,v.c,v.l,v.h,v.n⟩ else if k=2 then ⟨v.p,v.c,b%16,v.h,v.n⟩
 else if k=3 then ⟨v.p,v.c,v.l,v.h,b*256+v.n%256⟩ else if k=4 then ⟨v.p,v.c,v.l,v.h,v.n/256*256+b⟩ else v
def Sd.put(s:Sd)(k:Nat)(b:Int):Sd:=if k<8 then ⟨s.a.put (k%8) b,s.b,s.c,s.w⟩ else if k<16 then ⟨s.a,s.b.put (k%8) b,s.c,s.w⟩ else ⟨s.a,s.b,s.c.put (k%8) b,s.w⟩
theorem zf9(v:Vc)(b:Int)(w:u):Δ ω 345 #[(ac #[J Y v.p,J Y v.c,J au v.l,ν v.h,J Y v.n]),J au b] w λe w'=>e=μ (ac #[J Y v.p,J Y v.c,J au v.l,ν v.h,J Y v.n])/\Below w.heap.size w w':=by
 go_enter func345,ntmps345;go_wp2;refine Ξ (v:=.agg _) (by simp[results,results345,go_sem]) D ⟨D,?_⟩;exact(stA (stA (aR _) _) _)
theorem zAp(v:Vc)(b:Int)(w:u)(h:v.ok)(hb:0<=b/\b<=255):Δ ω 346 #[(ac #[J Y v.p,J Y v.c,J au v.l,ν v.h,J Y v.n]),J au b] w λe w'=>e=μ (ac #[J Y (v.put 0 b).p,J Y (v.put 0 b).c,J au (v.put 0 b).l,ν (v.put 0 b).h,J Y (v.put 0 b).n])/\Below w.heap.size w w':=by
 go_enter func346,ntmps346;go_wp2_with (go_at_call 347;refine(zpT v.p b _ h.p hb).mono ?_;rintro e w1 ⟨rfl,rfl⟩)
 refine Ξ (v:=.agg _) (by simp[results,results346,go_sem];exact⟨D,D,D,D,D⟩) D ⟨D,?_⟩;exact(stA (stA (aR _) _) _)
theorem zAq(v:Vc)(b:Int)(w:u)(h:v.ok)(hb:0<=b/\b<=255):Δ ω 348 #[(ac #[J Y v.p,J Y v.c,J au v.l,ν v.h,J Y v.n]),J au b] w λe w'=>e=μ (ac #[J Y (v.put 1 b).p,J Y (v.put 1 b).c,J au (v.put 1 b).l,ν (v.put 1 b).h,J Y (v.put 1 b).n])/\Below w.heap.size w w':=by
 go_enter func348,ntmps348;go_wp2_with (go_at_call 349;refine(zsT v.p b _ h.p hb).mono ?_;rintro e w1 ⟨rfl,rfl⟩)
 refine Ξ (v:=.agg _) (by simp[results,results348,go_sem];exact⟨D,D,D,D,D⟩) D ⟨D,?_⟩;exact(stA (stA (aR _) _) _)
theorem zAr(v:Vc)(b:Int)(w:u)(h:v.ok)(hb:0<=b/\b<=255):Δ ω 350 #[(ac #[J Y v.p,J Y v.c,J au v.l,ν v.h,J Y v.n]),J au b] w λe w'=>e=μ (ac #[J Y (v.put 2 b).p,J Y (v.put 2 b).c,J au (v.put 2 b).l,ν (v.put 2 b).h,J Y (v.put 2 b).n])/\Below w.heap.size w w':=by
 have e:=sN b hb;go_enter func350,ntmps350;go_wp2;refine Ξ (v:=.agg _) (by simp[results,results350,go_sem];exact⟨D,D,D,D,D⟩) D ⟨D,?_⟩;exact(stA (stA (aR _) _) _)
theorem zAs(v:Vc)(b:Int)(w:u)(h:v.ok)(hb:0<=b/\b<=255):Δ ω 351 #[(ac #[J Y v.p,J Y v.c,J au v.l,ν v.h,J Y v.n]),J au b] w λe w'=>e=μ (ac #[J Y (v.put 3 b).p,J Y (v.put 3 b).c,J au (v.put 3 b).l,ν (v.put 3 b).h,J Y (v.put 3 b).n])/\Below w.heap.size w w':=by
 go_enter func351,ntmps351;go_wp2_with (go_at_call 347;refine(zpT v.n b _ h.n hb).mono ?_;rintro e w1 ⟨rfl,rfl⟩)
 refine Ξ (v:=.agg _) (by simp[results,results351,go_sem];exact⟨D,D,D,D,D⟩) D ⟨D,?_⟩;exact(stA (stA (aR _) _) _)
theorem zAt(v:Vc)(b:Int)(w:u)(h:v.ok)(hb:0<=b/\b<=255):Δ ω 352 #[(ac #[J Y v.p,J Y v.c,J au v.l,ν v.h,J Y v.n]),J au b] w λe w'=>e=μ (ac #[J Y (v.put 4 b).p,J Y (v.put 4 b).c,J au (v.put 4 b).l,ν (v.put 4 b).h,J Y (v.put 4 b).n])/\Below w.heap.size w w':=by
 go_enter func352,ntmps352;go_wp2_with (go_at_call 349;refine(zsT v.n b _ h.n hb).mono ?_;rintro e w1 ⟨rfl,rfl⟩)
 refine Ξ (v:=.agg _) (by simp[results,results352,go_sem];exact⟨D,D,D,D,D⟩) D ⟨D,?_⟩;exact(stA (stA (aR _) _) _)
theorem zsU(w:u):Δ ω 281 #[] w λe w'=>e=μ (ac #[.func (.func 346) #[] #[],.func (.func 348) #[] #[],.func (.func 350) #[] #[],.func (.func 351) #[] #[],.func (.func 352) #[] #[],.func (.func 345) #[] #[],.func (.func 345) #[] #[],.func (.func 345) #[] #[]])/\Below w.heap.size w w':=by
 go_enter func281,ntmps281;go_wp2;refine Ξ (v:=.agg _) (by simp[results,results281,go_sem]) D ⟨D,?_⟩;exact(stA (aR _) _)
theorem Bx.w0{W:u}{b:Nat}{x:Sd}(h:Bx W b (lz x)):W.cell? ⟨b,0,G⟩=A (J Y x.a.p)/\W.cell? ⟨b,1,G⟩=A (J Y x.a.c)/\W.cell? ⟨b,2,G⟩=A (J au x.a.l)/\W.cell? ⟨b,3,G⟩=A (ν x.a.h)/\W.cell? ⟨b,4,G⟩=A (J Y x.a.n)/\b<W.heap.size /\ ∀ o,W.frozen? ⟨b,o,G⟩=ξ :=
 ⟨h.at 0 _ rfl,h.at 1 _ rfl,h.at 2 _ rfl,h.at 3 _ rfl,h.at 4 _ rfl,h.z,h.f⟩
theorem Bx.w1{W:u}{b:Nat}{x:Sd}(h:Bx W b (lz x)):W.cell? ⟨b,5,G⟩=A (J Y x.b.p)/\W.cell? ⟨b,6,G⟩=A (J Y x.b.c)/\W.cell? ⟨b,7,G⟩=A (J au x.b.l)/\W.cell? ⟨b,8,G⟩=A (ν x.b.h)/\W.cell? ⟨b,9,G⟩=A (J Y x.b.n)/\b<W.heap.size /\ ∀ o,W.frozen? ⟨b,o,G⟩=ξ :=
 ⟨h.at 5 _ rfl,h.at 6 _ rfl,h.at 7 _ rfl,h.at 8 _ rfl,h.at 9 _ rfl,h.z,h.f⟩
theorem Bx.w2{W:u}{b:Nat}{x:Sd}(h:Bx W b (lz x)):W.cell? ⟨b,10,G⟩=A (J Y x.c.p)/\W.cell? ⟨b,11,G⟩=A (J Y x.c.c)/\W.cell? ⟨b,12,G⟩=A (J au x.c.l)/\W.cell? ⟨b,13,G⟩=A (ν x.c.h)/\W.cell? ⟨b,14,G⟩=A (J Y x.c.n)/\b<W.heap.size /\ ∀ o,W.frozen? ⟨b,o,G⟩=ξ :=
 ⟨h.at 10 _ rfl,h.at 11 _ rfl,h.at 12 _ rfl,h.at 13 _ rfl,h.at 14 _ rfl,h.z,h.f⟩
theorem SmW.two(w:u)(s:Sd):SmW w s [] (κ G 0 0) ((w.alloc (.cells #[J Y s.a.p,J Y s.a.c,J au s.a.l,ν s.a.h,J Y s.a.n,J Y s.b.p,J Y s.b.c,J au s.b.l,ν s.b.h,J Y s.b.n,J Y s.c.p,J Y s.c.c,J au s.c.l,ν s.c.h,J Y s.c.n,J Q s.w] 36)).alloc (.cells #[J Y 0,J Y 0,J au 0,ν ξ,J Y 0,J Y 0,J Y 0,J au 0,ν ξ,J Y 0,J Y 0,J Y 0,J au 0,ν ξ,J Y 0,J Q 0] 36)):=⟨stA (stA (aR w) _) _,(Bx.new w (lz s) _ rfl).over _,Bx.new _ zs _ (by simp),⟨D,aj ⟨D,D⟩⟩⟩
theorem zwo(a x1 x2 x3 b c d e:π)(w:u):(aK 357 (ac #[a,x1,x2,x3,b,c,d,e]) (J Q 0)).run ω w=.ok a w:=by kernel_rfl
theorem zwp(a x1 x2 x3 b c d e:π)(w:u):(aK 357 (ac #[a,x1,x2,x3,b,c,d,e]) (J Q 1)).run ω w=.ok x1 w:=by kernel_rfl
theorem zwq(a x1 x2 x3 b c d e:π)(w:u):(aK 357 (ac #[a,x1,x2,x3,b,c,d,e]) (J Q 2)).run ω w=.ok x2 w:=by kernel_rfl
theorem zwr(a x1 x2 x3 b c d e:π)(w:u):(aK 357 (ac #[a,x1,x2,x3,b,c,d,e]) (J Q 3)).run ω w=.ok x3 w:=by kernel_rfl
theorem zws(b x1 x2 x3 a c d e:π)(w:u):(aK 357 (ac #[b,x1,x2,x3,a,c,d,e]) (J Q 4)).run ω w=.ok a w:=by kernel_rfl
theorem zwt(b x1 x2 x3 c a d e:π)(w:u):(aK 357 (ac #[b,x1,x2,x3,c,a,d,e]) (J Q 5)).run ω w=.ok a w:=by kernel_rfl
theorem zwu(b x1 x2 x3 c d a e:π)(w:u):(aK 357 (ac #[b,x1,x2,x3,c,d,a,e]) (J Q 6)).run ω w=.ok a w:=by kernel_rfl
theorem zwv(b x1 x2 x3 c d e a:π)(w:u):(aK 357 (ac #[b,x1,x2,x3,c,d,e,a]) (J Q 7)).run ω w=.ok a w:=by kernel_rfl
theorem zww(v:Vc)(b:Int)(w:u):Δ ω 345 #[(ac #[J Y v.p,J Y v.c,J au v.l,ν v.h,J Y v.n]),J au b] w λe w'=>e=μ (ac #[J Y (v.put 5 b).p,J Y (v.put 5 b).c,J au (v.put 5 b).l,ν (v.put 5 b).h,J Y (v.put 5 b).n])/\Below w.heap.size w w':=zf9 v b w
theorem zwx(v:Vc)(b:Int)(w:u):Δ ω 345 #[(ac #[J Y v.p,J Y v.c,J au v.l,ν v.h,J Y v.n]),J au b] w λe w'=>e=μ (ac #[J Y (v.put 6 b).p,J Y (v.put 6 b).c,J au (v.put 6 b).l,ν (v.put 6 b).h,J Y (v.put 6 b).n])/\Below w.heap.size w w':=zf9 v b w
theorem zwy(v:Vc)(b:Int)(w:u):Δ ω 345 #[(ac #[J Y v.p,J Y v.c,J au v.l,ν v.h,J Y v.n]),J au b] w λe w'=>e=μ (ac #[J Y (v.put 7 b).p,J Y (v.put 7 b).c,J au (v.put 7 b).l,ν (v.put 7 b).h,J Y (v.put 7 b).n])/\Below w.heap.size w w':=zf9 v b w
theorem eqv(v:Vc)(d:Nat)(w:u):(Op.equalIn (d+2) 33 (ac #[J Y v.p,J Y v.c,J au v.l,ν v.h,J Y v.n]) (ac #[J Y v.p,J Y v.c,J au v.l,ν v.h,J Y v.n])).run ω w=.ok Γ w:=by
 have u3:=underlying22;have a3:=isAgg22;have z3:=sizeOf22;have u4:=underlying4;have a4:=isAgg4;have z4:=sizeOf4;have b:=underlying5;have a5:=isAgg5;have z5:=sizeOf5;have a:Tryz.prog.underlying 33=A (.struct (Tryz.prog.fieldsOf 33)):=by kernel_rfl
 have hp:Tryz.prog.stoodInHeld 33=ξ:=by kernel_rfl
 rw[eI w (d+1) 33 _ _ a hp];simp only[dX,underlying33];go_simp
theorem zwm(s:Sd)(d:Nat)(w:u):(Op.equalIn (d+3) 34 (ac #[J Y s.a.p,J Y s.a.c,J au s.a.l,ν s.a.h,J Y s.a.n,J Y s.b.p,J Y s.b.c,J au s.b.l,ν s.b.h,J Y s.b.n,J Y s.c.p,J Y s.c.c,J au s.c.l,ν s.c.h,J Y s.c.n]) (ac #[J Y s.a.p,J Y s.a.c,J au s.a.l,ν s.a.h,J Y s.a.n,J Y s.b.p,J Y s.b.c,J au s.b.l,ν s.b.h,J Y s.b.n,J Y s.c.p,J Y s.c.c,J au s.c.l,ν s.c.h,J Y s.c.n])).run ω w=.ok Γ w:=by
 have g:=eqv s.a d;have h1:=eqv s.b d;have h2:=eqv s.c d;have a3:=isAgg33;have z3:=sizeOf33;have e:Tryz.prog.cellsOf 33=5:=by kernel_rfl
 have f:(Tryz.prog.info? 33).isSome=Γ:=by kernel_rfl
 obtain⟨i,hi⟩:=eE.1 f;rw[gY w (d+2) _ _ zd0 hi,e];simp only[List.range,List.range.loop,Op.eqItems];go_simp
theorem zwn(s:Sd)(w:u):(binOp .eql 36 (ac #[J Y s.a.p,J Y s.a.c,J au s.a.l,ν s.a.h,J Y s.a.n,J Y s.b.p,J Y s.b.c,J au s.b.l,ν s.b.h,J Y s.b.n,J Y s.c.p,J Y s.c.c,J au s.c.l,ν s.c.h,J Y s.c.n,J Q s.w]) (ac #[J Y s.a.p,J Y s.a.c,J au s.a.l,ν s.a.h,J Y s.a.n,J Y s.b.p,J Y s.b.c,J au s.b.l,ν s.b.h,J Y s.b.n,J Y s.c.p,J Y s.c.c,J au s.c.l,ν s.c.h,J Y s.c.n,J Q s.w])).run ω w=.ok (ν Γ) w:=by
 have u3:=underlying3;have x3:=isAgg3;have z3:=sizeOf3;have e:=isAgg34;have z5:=sizeOf34;have f:=zwm s 9996;have d:Tryz.prog.underlying 36=A (.struct (Tryz.prog.fieldsOf 36)):=by kernel_rfl
 have hp:Tryz.prog.stoodInHeld 36=ξ:=by kernel_rfl
 rw[dK,show (10000:Nat)=9999+1 from D,eI w 9999 36 _ _ d hp];simp only[dX,underlying36];go_simp
end Go.Proofs.YthghjlinhokimaaGreatDoor
namespace Go.Proofs.YthghjlinhokimaaGreatDoor.C
section
variable {σ : Type} {m : Mem σ}
theorem fuel_rdw(h1:∀ s a,m.fuel s<=m.fuel (m.rd s a).2)(s:σ)(a:Int):m.fuel s<=m.fuel (m.rdw s a).2:=by
 unfold Mem.rdw;exact ax (h1 s a) (h1 _ _)
theorem fuel_wrw(h2:∀ s a b,m.fuel s<=m.fuel (m.wr s a b)+1)(s:σ)(a n:Int):m.fuel s<=m.fuel (m.wrw s a n)+2:=by
 unfold Mem.wrw;have e1:=h2 s a (n/256);have e2:=h2 (m.wr s a (n/256)) ((a+1)%65536) (n%256);omega
theorem fuel_leave(h1:∀ s a,m.fuel s<=m.fuel (m.rd s a).2)(h2:∀ s a b,m.fuel s<=m.fuel (m.wr s a b)+1)(x:St σ)(a:Int):m.fuel x.s<=m.fuel (leave m x a).s+4:=by
 have e1:m.fuel x.s<=m.fuel (push m x x.c.PC).s+2:=fuel_wrw h2 _ _ _;have e2:m.fuel (push m x x.c.PC).s<=m.fuel (push m (push m x x.c.PC) (sign (push m x x.c.PC).c)).s+2:=fuel_wrw h2 _ _ _;have e3:m.fuel (push m (push m x x.c.PC) (sign (push m x x.c.PC).c)).s<=m.fuel (leave m x a).s:=fuel_rdw h1 _ _;omega
theorem fuel_act(h1:∀ s a,m.fuel s<=m.fuel (m.rd s a).2)(h2:∀ s a b,m.fuel s<=m.fuel (m.wr s a b)+1)(x:St σ)(k:Nat)(d s n w:Int):m.fuel x.s<=m.fuel (act m x k d s n w).s+4:=by
 have u0:m.fuel x.s<=m.fuel x.s+4:=kg _ _;have u2:∀ a n,m.fuel x.s<=m.fuel (m.wrw x.s a n)+4:=λa n=>by have:=fuel_wrw h2 x.s a n;omega
 have u1:∀ a n,m.fuel x.s<=m.fuel (m.wr x.s a n)+4:=λa n=>by have:=h2 x.s a n;omega
 have u3:∀ a,m.fuel x.s<=m.fuel (m.rdw x.s a).2+4:=λa=>by have:=fuel_rdw h1 x.s a;omega
 have u4:∀ a,m.fuel x.s<=m.fuel (m.rd x.s a).2+4:=λa=>by have:=h1 x.s a;omega
 have c:∀ a b,m.fuel x.s<=m.fuel (m.rdw (m.rdw x.s a).2 b).2+4:=λa b=>by have:=fuel_rdw h1 x.s a;have:=fuel_rdw h1 (m.rdw x.s a).2 b;omega
 unfold act;split
 ·exact u0
 ·exact u0
 ·exact u3 _
 ·exact u2 _ _
 ·exact u4 _
 ·exact u1 _ _
 ·exact u0
 ·exact u0
 ·exact u0
 ·exact u0
 ·exact u0
 ·exact u0
 ·exact u0
 ·exact u0
 ·exact u0
 ·exact u0
 ·split <;> exact u0
 ·split <;> exact u0
 ·split <;> exact u0
 ·exact u2 _ _
 ·exact u3 _
 ·exact u2 _ _
 ·exact u3 _
 ·exact u0
 ·exact u0
 ·exact c _ _
 ·exact u0
 ·exact u0
 ·split <;> exact u0
 ·exact fuel_leave h1 h2 x 4
 ·exact u0
theorem fuel_step(h1:∀ s a,m.fuel s<=m.fuel (m.rd s a).2)(h2:∀ s a b,m.fuel s<=m.fuel (m.wr s a b)+1)(c:Cpu)(s:σ)(r:Bool):m.fuel s<=m.fuel (step m c s r).s+4:=by
 unfold step;split
 ·exact fuel_leave h1 h2 ⟨c,s,0⟩ 2
 ·split
  ·exact kg _ _
  ·unfold order
   refine ax ?_ (fuel_act h1 h2 _ _ _ _ _ _);show m.fuel s<=m.fuel (behind m c s).s;unfold behind;simp only;split
   ·exact ax (fuel_rdw h1 _ _) (fuel_rdw h1 _ _)
   ·exact fuel_rdw h1 _ _
theorem act_n(x:St σ)(k:Nat)(d s n w:Int):(act m x k d s n w).n=x.n \/ (act m x k d s n w).n=x.n+1:=by
 unfold act;split;all_goals first
  | exact aj D
  | exact ao D
  | (split;exact ao D;exact aj D)
  | (split;exact aj D;exact ao D)
theorem cyc_bd:∀ k,k<32->0<=K.cyc k/\K.cyc k<=20:=by decide
theorem step_n(c:Cpu)(s:σ)(r:Bool)(a:O.rk (word1 m c s)<32):0<=(step m c s r).n/\(step m c s r).n<=21:=by
 unfold step;split
 ·exact⟨show (0:Int)<=6 by decide,show (6:Int)<=21 by decide⟩
 ·split
  ·exact⟨show (0:Int)<=1 by decide,show (1:Int)<=21 by decide⟩
  ·unfold order
   have hc:=cyc_bd _ a;rcases act_n (m:=m) { behind m c s with n:=K.cyc (O.rk (word1 m c s)) } (O.rk (word1 m c s)) (O.rD (word1 m c s)) (O.rS (word1 m c s)) (O.rN (word1 m c s)) (O.rW (word1 m c s) (word2 m c s)) with e|e
   ·rw[e];exact⟨hc.1,iA hc.2 (by decide)⟩
   ·rw[e]
    have h1:=hc.1;have h2:=hc.2;show 0<=K.cyc (O.rk (word1 m c s))+1/\K.cyc (O.rk (word1 m c s))+1<=21;omega
end
end Go.Proofs.YthghjlinhokimaaGreatDoor.C
namespace Go.Proofs.YthghjlinhokimaaGreatDoor.C
section
variable {σ : Type} {m : Mem σ} {P : σ -> Prop}
theorem keeps_rdw(h1:∀ s a,P s->P (m.rd s a).2)(s:σ)(a:Int)(h:P s):P (m.rdw s a).2:=by
 unfold Mem.rdw;exact h1 _ _ (h1 _ _ h)
theorem keeps_wrw(h2:∀ s a b,P s->P (m.wr s a b))(s:σ)(a n:Int)(h:P s):P (m.wrw s a n):=by
 unfold Mem.wrw;exact h2 _ _ _ (h2 _ _ _ h)
theorem keeps_leave(h1:∀ s a,P s->P (m.rd s a).2)(h2:∀ s a b,P s->P (m.wr s a b))(x:St σ)(a:Int)(h:P x.s):P (leave m x a).s:=by
 have e1:P (push m x x.c.PC).s:=keeps_wrw h2 _ _ _ h;have e2:P (push m (push m x x.c.PC) (sign (push m x x.c.PC).c)).s:=keeps_wrw h2 _ _ _ e1;exact keeps_rdw h1 _ _ e2
theorem keeps_act(h1:∀ s a,P s->P (m.rd s a).2)(h2:∀ s a b,P s->P (m.wr s a b))(x:St σ)(k:Nat)(d s n w:Int)(h:P x.s):P (act m x k d s n w).s:=by
 have u2:∀ a n,P (m.wrw x.s a n):=λa n=>keeps_wrw h2 _ _ _ h
 have u1:∀ a n,P (m.wr x.s a n):=λa n=>h2 _ _ _ h
 have u3:∀ a,P (m.rdw x.s a).2:=λa=>keeps_rdw h1 _ _ h
 have u4:∀ a,P (m.rd x.s a).2:=λa=>h1 _ _ h
 have c:∀ a b,P (m.rdw (m.rdw x.s a).2 b).2:=λa b=>keeps_rdw h1 _ _ (u3 a)
 unfold act;split
 ·exact h
 ·exact h
 ·exact u3 _
 ·exact u2 _ _
 ·exact u4 _
 ·exact u1 _ _
 ·exact h
 ·exact h
 ·exact h
 ·exact h
 ·exact h
 ·exact h
 ·exact h
 ·exact h
 ·exact h
 ·exact h
 ·split <;> exact h
 ·split <;> exact h
 ·split <;> exact h
 ·exact u2 _ _
 ·exact u3 _
 ·exact u2 _ _
 ·exact u3 _
 ·exact h
 ·exact h
 ·exact c _ _
 ·exact h
 ·exact h
 ·split <;> exact h
 ·exact keeps_leave h1 h2 x 4 h
 ·exact h
theorem keeps_step(h1:∀ s a,P s->P (m.rd s a).2)(h2:∀ s a b,P s->P (m.wr s a b))(c:Cpu)(s:σ)(r:Bool)(h:P s):P (step m c s r).s:=by
 unfold step;split
 ·exact keeps_leave h1 h2 ⟨c,s,0⟩ 2 h
 ·split
  ·exact h
  ·unfold order
   refine keeps_act h1 h2 _ _ _ _ _ _ ?_;show P (behind m c s).s;unfold behind;simp only;split
   ·exact keeps_rdw h1 _ _ (keeps_rdw h1 _ _ h)
   ·exact keeps_rdw h1 _ _ h
end
end Go.Proofs.YthghjlinhokimaaGreatDoor.C
namespace Go.Proofs.YthghjlinhokimaaGreatDoor
open Go.ChangeShapes Go.WideShapes Go.ChangeAt Go.RowKit Go.Proofs.Tryz
theorem fld{H:Type}{enc:aJ × π->H}{P:Program}{w:u}{base:Nat}{spare:Nat->Bool}{held:Bool}{n i o:Nat}{ty:aJ}{cs:List π}{xs:List (fF H × List MemPlace)}
 (h:dh enc P w base spare held n ty ((cs.drop o).take (P.cellsOf ty))=xs[i]?) (hi:i<xs.length) (hc:P.cellsOf ty=1) {v:π} (a:cs[o]?=A v):∃ y,dh enc P w base spare held n ty [v]=A y:=by
 rw[hc,aq hi] at h;have e:(cs.drop o).take 1=[v]:=by
  rw[og,mV,a];rfl
 rw[e] at h;exact⟨_,h⟩
theorem oo{H:Type}{enc:aJ × π->H}{P:Program}{w:u}{base:Nat}{spare:Nat->Bool}{held:Bool}{n i o:Nat}{ty:aJ}{cs:List π}{xs:List (fF H × List MemPlace)}{k:IntKind}
 (h:dh enc P w base spare held n ty ((cs.drop o).take (P.cellsOf ty))=xs[i]?) (hi:i<xs.length) (hc:P.cellsOf ty=1) (b:P.underlying ty=A (.int k)) {v:π} (c:cs[o]?=A v):∃ a:Int,v=.int k a/\(Lit.int k a).wf=Γ:=by
 obtain⟨y,d⟩:=fld h hi hc c;obtain⟨a,e,_,f⟩:=nC b d;simp only[eF,and_true] at e;exact⟨a,e,f⟩
theorem zm6{W:u}{l:List (String × fF Unit)}(h:mA ω l W)(b:("strings.asciiSpace",Rows.laid_strings_asciiSpace)∈l):fm ω W "strings.asciiSpace" au fP:=by
 obtain⟨g,t,cs,fuel,p,c,d,e,a⟩:=Lib.laidMet.reads h b;have e1:Tryz.prog.globalNamed "strings.asciiSpace" = A 1:=by kernel_rfl
 have e2:(Tryz.prog.globals[1]?).map (·.type)=A 335:=by kernel_rfl
 obtain rfl:=aL (e1.symm.trans c);obtain rfl:=aL (e2.symm.trans d);have e3:(Rows.laid_strings_asciiSpace:fF Unit)=Lib.tabData au fP:=by kernel_rfl
 rw[e3] at a;unfold fm;rw[e,<- Lib.cells_of_tab underlying335 underlying5 (by kernel_rfl) (by kernel_rfl) a]
theorem zdS{W:u}{l:List (String × fF Unit)}(h:mA ω l W)(x:("marquee/order.shapes",Rows.laid_marquee_order_shapes)∈l):br W:=by
 obtain⟨g,t,cs,fuel,p,e,y,f,o⟩:=Lib.laidMet.reads h x;have e1:Tryz.prog.globalNamed "marquee/order.shapes" = A 2:=by kernel_rfl
 have e2:(Tryz.prog.globals[2]?).map (·.type)=A 367:=by kernel_rfl
 obtain rfl:=aL (e1.symm.trans e);obtain rfl:=aL (e2.symm.trans y);have e3:(Rows.laid_marquee_order_shapes:fF Unit)=.agg ((List.range 32).map λk=>.agg [.lit (.string (O.nameS k).data.toList),.lit (.int Q (K.cyc k)),.lit (.int Q (O.mask k))]):=by kernel_rfl
 rw[e3] at o;intro k r;obtain⟨i,d,q,c,v⟩:=Lib.array_elem underlying367 o k r;simp only[bn,ij r,iG,aZ] at c;subst c;have c3:Tryz.prog.cellsOf 328=3:=by kernel_rfl
 have c9:Tryz.prog.cellsOf 9=1:=by kernel_rfl
 have c1:Tryz.prog.cellsOf 3=1:=by kernel_rfl
 rw[c3] at v;obtain⟨z,B,E,n,w,_,j,h1,h2⟩:=Deep.trod_struct3 underlying328 v;simp only[gv,DataW.agg.injEq,eF,and_true] at w;obtain⟨⟨m,x1,x2⟩,_⟩:=w;dsimp only at j h1 h2;rw[c9] at j;rw[c1] at h1 h2;obtain⟨s,s0,s1,_⟩:=DataW.trod_string underlying9 j;obtain⟨a,a0,a1,_⟩:=nC underlying3 h1;obtain⟨b,b0,b1,_⟩:=nC underlying3 h2;rw[s1] at m;rw[a1] at x1;rw[b1] at x2;simp only[DataW.lit.injEq,Lit.string.injEq,Lit.int.injEq,true_and] at m x1 x2;have es:s=O.nameS k:=n9 (Array.toList_inj.1 m.symm);subst es;subst x1;subst x2;have f0:=congrArg (·[0]?) s0;have f1:=congrArg (·[0]?) a0;have f2:=congrArg (·[0]?) b0;simp[jC] at f0 f1 f2;refine⟨?_,?_,?_⟩
 ·rw[kG e f (k*3),f0]
 ·rw[kG e f (k*3+1),f1]
 ·rw[kG e f (k*3+2),f2]
theorem Ag{W:u}{l:List (String × fF Unit)}(h:mA ω l W)(a:W.ShapedOpen ω)(h1:("strings.asciiSpace",Rows.laid_strings_asciiSpace)∈l)(h2:("marquee/order.shapes",Rows.laid_marquee_order_shapes)∈l):Facts W :=
 ⟨zm6 h h1,zfZ a,zdS h h2⟩
theorem zou{w:u}(h:Facts w):1<w.heap.size/\0<w.heap.size/\2<w.heap.size:=by
 obtain⟨t,⟨m,b⟩,s⟩:=h;refine⟨?_,aC w _ b,aC w _ (s 0 (by decide)).1⟩;unfold fm World.var? at t;rw[zm5] at t;simp only[oZ] at t;by_cases a:1<w.heap.size
 ·exact a
 ·rw[jU (Nat.le_of_not_lt a)] at t
  cases t
end Go.Proofs.YthghjlinhokimaaGreatDoor
