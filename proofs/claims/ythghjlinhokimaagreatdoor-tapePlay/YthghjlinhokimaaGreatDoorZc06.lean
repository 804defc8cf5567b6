/-
  Parts of a proof, joined.
-/
import Derived.Test.YthghjlinhokimaaGreatDoorZcA
import Derived.Test.YthghjlinhokimaaGreatDoorZc04
import Derived.Deep.DeepCutAuto
set_option linter.all false
set_option maxRecDepth 100000
set_option maxHeartbeats 3200000
namespace Go.Proofs.YthghjlinhokimaaGreatDoor
open Go.ChangeShapes Go.WideShapes Go.ChangeAt Go.RowKit Go.Proofs.Tryz
abbrev nQ(v:Vc):List Value:=[.int .u16 v.p,.int .u16 v.c,.int .u8 v.l,.bool v.h,.int .u16 v.n]
theorem n5(v:Vc)(m:Int)(w:World)(h:v.ok)(a:0<=m/\m<=20000):Calls prog 120 #[(.agg #[.int .u16 v.p,.int .u16 v.c,.int .u8 v.l,.bool v.h,.int .u16 v.n]),.int .i64 m] w λe w'=>e=.returned (.agg #[.int .u16 (v.later m).p,.int .u16 (v.later m).c,.int .u8 (v.later m).l,.bool (v.later m).h,.int .u16 (v.later m).n])/\Below w.heap.size w w' :=
 zqe v.p v.c v.l v.n v.h m w h.p h.c h.n a
theorem zvG(n:Int)(w:World):Calls prog 118 #[.int .i64 n] w λe w'=>e=.returned (.bool (decide (0<=n/\n<=20000)))/\w=w':=by
 by_cases h1:0<=n
 ·by_cases h2:n<=20000
  ·rw[aL ⟨h1,h2⟩]
   go_enter func118,ntmps118;go_wp2;go_ret;exact⟨U,U⟩
  ·rw[aF (λh=>h2 h.2)]
   go_enter func118,ntmps118;go_wp2;go_ret;exact⟨U,U⟩
 ·rw[aF (λh=>h1 h.1)]
  go_enter func118,ntmps118;go_wp2;go_ret;exact⟨U,U⟩
theorem zg4(s:Sd)(w:World)(h:0<=s.w/\s.w<=15):Calls prog 117 #[(.agg #[.int .u16 s.a.p,.int .u16 s.a.c,.int .u8 s.a.l,.bool s.a.h,.int .u16 s.a.n,.int .u16 s.b.p,.int .u16 s.b.c,.int .u8 s.b.l,.bool s.b.h,.int .u16 s.b.n,.int .u16 s.c.p,.int .u16 s.c.c,.int .u8 s.c.l,.bool s.c.h,.int .u16 s.c.n,.int .i64 s.w])] w λe w'=>e=.returned (.int .i64 0)/\Below w.heap.size w w':=by
 go_enter func117,ntmps117;go_wp2;go_ret;exact⟨U,stA (J _) _⟩
theorem zqf(s:Sd)(w:World)(h:s.w<0 \/ 15<s.w):Calls prog 117 #[(.agg #[.int .u16 s.a.p,.int .u16 s.a.c,.int .u8 s.a.l,.bool s.a.h,.int .u16 s.a.n,.int .u16 s.b.p,.int .u16 s.b.c,.int .u8 s.b.l,.bool s.b.h,.int .u16 s.b.n,.int .u16 s.c.p,.int .u16 s.c.c,.int .u8 s.c.l,.bool s.c.h,.int .u16 s.c.n,.int .i64 s.w])] w λe w'=>e=.returned (.int .i64 3)/\Below w.heap.size w w':=by
 rcases h with h|h
 ·go_enter func117,ntmps117
  go_wp2;go_ret;exact⟨U,stA (J _) _⟩
 ·have d:¬ s.w<0:=by omega
  go_enter func117,ntmps117;go_wp2;go_ret;exact⟨U,stA (J _) _⟩
theorem rI(a x1 x2 x3 b c d e f g h i j k l:Value)(w:World):(Instr.index 34 (.agg #[a,x1,x2,x3,b,c,d,e,f,g,h,i,j,k,l]) (.int .i64 0)).run prog w=.ok (.agg #[a,x1,x2,x3,b]) w:=by kernel_rfl
theorem rJ(f x1 x2 x3 g a b c d e h i j k l:Value)(w:World):(Instr.index 34 (.agg #[f,x1,x2,x3,g,a,b,c,d,e,h,i,j,k,l]) (.int .i64 1)).run prog w=.ok (.agg #[a,b,c,d,e]) w:=by kernel_rfl
theorem rK(f x1 x2 x3 g h i j k l a b c d e:Value)(w:World):(Instr.index 34 (.agg #[f,x1,x2,x3,g,h,i,j,k,l,a,b,c,d,e]) (.int .i64 2)).run prog w=.ok (.agg #[a,b,c,d,e]) w:=by kernel_rfl
theorem nI(l:Int)(h:0<=l/\l<=255):bits .and .u8 l 15=l%16:=by
 obtain⟨X,a⟩:=aB h.1;subst a;rw[show (15:Int)=((15:Nat):Int) from U,ji _ _ (by omega) (by omega)];have:=dq X 4;simp only[Nat.reducePow,Nat.reduceSub] at this;rw[this];omega
theorem n9{v:Vc}(h:v.h=true):ld v=v.l%16:=by unfold ld;rw[h];rfl
theorem oa{v:Vc}(h:v.h=false):ld v=0:=by unfold ld;rw[h];rfl
theorem zot(s:Sd)(w:World)(h:s.ok):Calls prog 119 #[(.agg #[.int .u16 s.a.p,.int .u16 s.a.c,.int .u8 s.a.l,.bool s.a.h,.int .u16 s.a.n,.int .u16 s.b.p,.int .u16 s.b.c,.int .u8 s.b.l,.bool s.b.h,.int .u16 s.b.n,.int .u16 s.c.p,.int .u16 s.c.c,.int .u8 s.c.l,.bool s.c.h,.int .u16 s.c.n])] w λe w'=>e=.returned (.int .u8 (lu s))/\Below w.heap.size w w':=by
 have a0:=nI _ h.a.l;have a1:=nI _ h.b.l;have a2:=nI _ h.c.l;have i0:=rI;have m:=rJ;have i2:=rK;have j:=kx s.a;have lb:=kx s.b;have k:=kx s.c;have o:=hid j;have LB:=hid lb;have LC:=hid k;go_enter func119,ntmps119;go_wp2;go_loopw [3,7] (λx i wr=>Below w.heap.size w wr/\((i=.int .i64 0/\x=.int .u8 0) \/ (i=.int .i64 1/\x=.int .u8 (ld s.a)) \/ (i=.int .i64 2/\x=.int .u8 (ld s.a+ld s.b)) \/ (i=.int .i64 3/\x=.int .u8 (lu s)))) (λ_ i _=>3-(intOf i).toNat)
 case atStart=>exact⟨stA (J _) _,Or.inl ⟨U,U⟩⟩
 case round =>
  obtain⟨hB,f⟩:=hrel;have g:=hid hB;clear hB;rcases f with⟨rfl,rfl⟩|⟨rfl,rfl⟩|⟨rfl,rfl⟩|⟨rfl,rfl⟩
  ·cases d:s.a.h
   ·have e:=oa d
    go_wp2;refine⟨⟨stA g.out _,Or.inr (Or.inl ⟨U,?_⟩)⟩,by decide⟩;first|rfl|rw[e]
   ·have e:=n9 d
    go_wp2;refine⟨⟨stA g.out _,Or.inr (Or.inl ⟨U,?_⟩)⟩,by decide⟩;first|rfl|rw[e]|(rw[e];simp)
  ·cases d:s.b.h
   ·have e:=oa d
    go_wp2;refine⟨⟨stA g.out _,Or.inr (Or.inr (Or.inl ⟨U,?_⟩))⟩,by decide⟩;first|rfl|(rw[e];simp)
   ·have e:=n9 d
    go_wp2;refine⟨⟨stA g.out _,Or.inr (Or.inr (Or.inl ⟨U,?_⟩))⟩,by decide⟩;first|rfl|rw[e]|(rw[e];simp)
  ·cases d:s.c.h
   ·have e:=oa d
    go_wp2;refine⟨⟨stA g.out _,Or.inr (Or.inr (Or.inr ⟨U,?_⟩))⟩,by decide⟩;first|rfl|(unfold lu;rw[e];simp)
   ·have e:=n9 d
    go_wp2;refine⟨⟨stA g.out _,Or.inr (Or.inr (Or.inr ⟨U,?_⟩))⟩,by decide⟩;first|rfl|(unfold lu;rw[e])|(unfold lu;rw[e];simp)
  ·go_wp2
   go_ret;exact⟨U,g.out⟩
abbrev iE(s:Sd):List Value:=[.int .u16 s.a.p,.int .u16 s.a.c,.int .u8 s.a.l,.bool s.a.h,.int .u16 s.a.n,.int .u16 s.b.p,.int .u16 s.b.c,.int .u8 s.b.l,.bool s.b.h,.int .u16 s.b.n,.int .u16 s.c.p,.int .u16 s.c.c,.int .u8 s.c.l,.bool s.c.h,.int .u16 s.c.n,.int .i64 s.w]
abbrev zs:List Value:=[.int .u16 0,.int .u16 0,.int .u8 0,.bool false,.int .u16 0,.int .u16 0,.int .u16 0,.int .u8 0,.bool false,.int .u16 0,.int .u16 0,.int .u16 0,.int .u8 0,.bool false,.int .u16 0,.int .i64 0]
theorem zno{w w':World}{B n:Nat}{v:Value}{xs:List Value}(h:w.ownsRow B 5 1 v n xs)(hb:Below w.heap.size w w'):w'.ownsRow B 5 1 v n xs:=zeR h (λk a=>hb.block k (h.lt k a).2)
theorem zqh{w:World}{B n b o:Nat}{v:Value}{xs:List Value}(h:w.ownsRow B 5 1 v n xs)(hb:b<B)(x:Value):(w.setCell ⟨b,o,none⟩ x).ownsRow B 5 1 v n xs:=zeR h (λk a=>by
 have:=h.lt k a;exact bL w ⟨b,o,none⟩ x k (show k≠b by omega))
theorem tw{B n b:Nat}{v:Value}{xs:List Value}(hb:b<B):∀(vs:List Value) (o:Nat) {w:World},w.ownsRow B 5 1 v n xs->(w.setCells b o vs).ownsRow B 5 1 v n xs
 | [],o,w,h=>h
 | x::vs,o,w,h=>tw hb vs (o+1) (zqh h hb x)
theorem zs4{w w':World}{B:Nat}{x:Option Nat}(h:w.grownBy w' x)(hB:B<=w.heap.size)(a:∀ k,x=some k->B<=k):Below B w w':=(aW B w).grown h hB a
theorem app1{ops:Array Oper}{rest:List Oper}{o:Oper}{a:Act}{w:World}{aj:Exit->Act->World->Prop}(i:o.guard=none)(s x:Operand)(r:o.op=.call { callee:=.builtin .append,args:=#[s,x],argTypes:=#[26,26] })
 (B:Nat) (v:Value) (xs:List UInt8) (t:a.eval s=v) (b:w.ownsRow B 5 1 v xs.length (dW xs)) (g c:Nat) (y:UInt8) (z:Int) (E:a.eval x=.slice (some ⟨g,0,none⟩) 1 c) (hc:w.cell? ⟨g,0,none⟩=some (.int .u8 z)) (F:z=y.toNat) (I:xs.length<=50000) (hB:B<=w.heap.size)
 (h:∀ v' w',w'.ownsRow B 5 1 v' (xs++[y]).length (dW (xs++[y]))->Below B w w'->wpList prog ops aj rest (a.put o.dst v') w'):wpList prog ops aj (o::rest) a w:=by
 obtain⟨i0,l,m,n,p⟩:=info_parts zdV;subst F;refine kG _ i s x _ r B 5 i0 _ 1 1 underlying26 l m n p U (by omega) v xs.length (dW xs) t b ⟨g,0,none⟩ 1 c [.int .u8 y.toNat] E U (λj u f=>?_) (λu q=>?_) (by unfold maxLen;omega) (by omega) hB ?_
 ·match j,f with
  | 0,f =>
   simp only[aY,aP] at f;rw[<- f,addr_add];exact hc
 ·simp only[ch] at q;rw[q];rfl
 ·intro v' w' d e _
  refine h _ w' ?_ (zs4 e hB (λk H=>(b.lt k H).1));rw[aC,<- zg5];exact d
theorem zou:(Tryz.prog.info? 34).map (·.size)=some 15:=by kernel_rfl
theorem kJ:(Tryz.prog.info? 36).map (·.size)=some 16:=by kernel_rfl
theorem zdy:Tryz.prog.underlying 34=some (.array 3 33):=by kernel_rfl
theorem qG{W:World}{b:Nat}{x:Sd}(h:Bx W b (iE x)):(Instr.loadAt 34 (.pointer (some ⟨b,0,none⟩))).run prog W=.ok (.agg #[.int .u16 x.a.p,.int .u16 x.a.c,.int .u8 x.a.l,.bool x.a.h,.int .u16 x.a.n,.int .u16 x.b.p,.int .u16 x.b.c,.int .u8 x.b.l,.bool x.b.h,.int .u16 x.b.n,.int .u16 x.c.p,.int .u16 x.c.c,.int .u8 x.c.l,.bool x.c.h,.int .u16 x.c.n]) W :=
 run_loadAt_mid W b 0 34 _ _ (h.mid 0 15) zdy rfl zou
theorem lx{W:World}{b:Nat}{x:Sd}(h:Bx W b (iE x)):(loadVar 36 ⟨b,0,none⟩).run prog W=.ok (.agg #[.int .u16 x.a.p,.int .u16 x.a.c,.int .u8 x.a.l,.bool x.a.h,.int .u16 x.a.n,.int .u16 x.b.p,.int .u16 x.b.c,.int .u8 x.b.l,.bool x.b.h,.int .u16 x.b.n,.int .u16 x.c.p,.int .u16 x.c.c,.int .u8 x.c.l,.bool x.c.h,.int .u16 x.c.n,.int .i64 x.w]) W :=
 run_loadVar_mid W b 0 36 _ _ h.c underlying36 rfl kJ
structure SmW (w : World) (x : Sd) (l : List UInt8) (v : Value) (W : World) : Prop where
 low:Below w.heap.size w W
 b:Bx W w.heap.size (iE x)
 r:Bx W (w.heap.size+1) zs
 o:W.ownsRow (w.heap.size+2) 5 1 v l.length (dW l)
section
variable {w W w1 : World} {x : Sd} {l : List UInt8} {v : Value}
theorem SmW.kept(h:SmW w x l v W)(hb:Below W.heap.size W w1):SmW w x l v w1:=⟨bn h.low hb,h.b.kept hb,h.r.kept hb,zno h.o hb⟩
theorem SmW.over(h:SmW w x l v W)(o:Obj):SmW w x l v (W.alloc o):=h.kept (stA (J W) o)
theorem SmW.app(h:SmW w x l v W){a:List UInt8}{v':Value}(hb:Below (w.heap.size+2) W w1)(c:w1.ownsRow (w.heap.size+2) 5 1 v' a.length (dW a)):SmW w x a v' w1:=⟨h.low.trans (hb.mono (by omega)),h.b.under hb (by omega),h.r.under hb (by omega),c⟩
theorem SmW.wait(h:SmW w x l v W)(z:Int):SmW w ⟨x.a,x.b,x.c,z⟩ l v (W.setCell ⟨w.heap.size,15,none⟩ (.int .i64 z)):=⟨Bl.set h.low (ak _) _,h.b.set 15 _ (by simp),h.r.far (by omega) _,zqh h.o (by omega) _⟩
theorem SmW.v0(h:SmW w x l v W)(y:Vc):SmW w ⟨y,x.b,x.c,x.w⟩ l v (((((W.setCell ⟨w.heap.size,0,none⟩ (.int .u16 y.p)).setCell ⟨w.heap.size,1,none⟩ (.int .u16 y.c)).setCell ⟨w.heap.size,2,none⟩ (.int .u8 y.l)).setCell ⟨w.heap.size,3,none⟩ (.bool y.h)).setCell ⟨w.heap.size,4,none⟩ (.int .u16 y.n)) :=
 ⟨Bl.puts (o:=0) h.low (ak _) (nQ y),h.b.puts 0 (nQ y) (by simp),h.r.fars (by omega) 0 (nQ y),tw (by omega) (nQ y) 0 h.o⟩
theorem SmW.v1(h:SmW w x l v W)(y:Vc):SmW w ⟨x.a,y,x.c,x.w⟩ l v (((((W.setCell ⟨w.heap.size,5,none⟩ (.int .u16 y.p)).setCell ⟨w.heap.size,6,none⟩ (.int .u16 y.c)).setCell ⟨w.heap.size,7,none⟩ (.int .u8 y.l)).setCell ⟨w.heap.size,8,none⟩ (.bool y.h)).setCell ⟨w.heap.size,9,none⟩ (.int .u16 y.n)) :=
 ⟨Bl.puts (o:=5) h.low (ak _) (nQ y),h.b.puts 5 (nQ y) (by simp),h.r.fars (by omega) 5 (nQ y),tw (by omega) (nQ y) 5 h.o⟩
theorem SmW.v2(h:SmW w x l v W)(y:Vc):SmW w ⟨x.a,x.b,y,x.w⟩ l v (((((W.setCell ⟨w.heap.size,10,none⟩ (.int .u16 y.p)).setCell ⟨w.heap.size,11,none⟩ (.int .u16 y.c)).setCell ⟨w.heap.size,12,none⟩ (.int .u8 y.l)).setCell ⟨w.heap.size,13,none⟩ (.bool y.h)).setCell ⟨w.heap.size,14,none⟩ (.int .u16 y.n)) :=
 ⟨Bl.puts (o:=10) h.low (ak _) (nQ y),h.b.puts 10 (nQ y) (by simp),h.r.fars (by omega) 10 (nQ y),tw (by omega) (nQ y) 10 h.o⟩
theorem SmW.w15(h:SmW w x l v W):W.cell? ⟨w.heap.size,15,none⟩=some (.int .i64 x.w):=h.b.at 15 _ rfl
end
theorem zra{s x:Sd}{k mN:Nat}{L:List UInt8}{m:Int}(f:s.ticks k=x)(g:ku s k=L)(d:x.fit)(e:(mN:Int)=m)(h1:1<=m)(h2:m<=wt x):s.ticks (k+mN)=⟨x.a.later m,x.b.later m,x.c.later m,wt x-m⟩/\ku s (k+mN)=L++one x:=by
 subst e f g;rw[<- Sd.ticks_add,zvE,<- Sd.go_ticks d mN (by omega) h2,(Sd.near d mN (by omega) h2).2];exact⟨U,U⟩
theorem Sd.fit.k{s:Sd}(h:s.fit):s.ok:=⟨h.a,h.b,h.c⟩
abbrev tM(x:Sd)(W:World)(b:Nat):Prop:=W.cell? ⟨b,0,none⟩=some (.int .u16 x.a.p)/\W.cell? ⟨b,1,none⟩=some (.int .u16 x.a.c)/\W.cell? ⟨b,2,none⟩=some (.int .u8 x.a.l)/\W.cell? ⟨b,3,none⟩=some (.bool x.a.h)/\W.cell? ⟨b,4,none⟩=some (.int .u16 x.a.n)/\W.cell? ⟨b,5,none⟩=some (.int .u16 x.b.p)/\W.cell? ⟨b,6,none⟩=some (.int .u16 x.b.c)/\W.cell? ⟨b,7,none⟩=some (.int .u8 x.b.l)/\W.cell? ⟨b,8,none⟩=some (.bool x.b.h)/\W.cell? ⟨b,9,none⟩=some (.int .u16 x.b.n)/\W.cell? ⟨b,10,none⟩=some (.int .u16 x.c.p)/\W.cell? ⟨b,11,none⟩=some (.int .u16 x.c.c)/\W.cell? ⟨b,12,none⟩=some (.int .u8 x.c.l)/\W.cell? ⟨b,13,none⟩=some (.bool x.c.h)/\W.cell? ⟨b,14,none⟩=some (.int .u16 x.c.n)/\W.cell? ⟨b,15,none⟩=some (.int .i64 x.w)
theorem tM.of{W:World}{b:Nat}{x:Sd}(h:Bx W b (iE x)):tM x W b:=⟨h.at 0 _ rfl,h.at 1 _ rfl,h.at 2 _ rfl,h.at 3 _ rfl,h.at 4 _ rfl,h.at 5 _ rfl,h.at 6 _ rfl,h.at 7 _ rfl,h.at 8 _ rfl,h.at 9 _ rfl,h.at 10 _ rfl,h.at 11 _ rfl,h.at 12 _ rfl,h.at 13 _ rfl,h.at 14 _ rfl,h.at 15 _ rfl⟩
theorem SmW.all{w W:World}{x:Sd}{l:List UInt8}{v:Value}(h:SmW w x l v W):tM x W w.heap.size :=
 tM.of h.b
theorem SmW.allr{w W:World}{x:Sd}{l:List UInt8}{v:Value}(h:SmW w x l v W):W.cell? ⟨w.heap.size+1,0,none⟩=some (.int .u16 0)/\W.cell? ⟨w.heap.size+1,1,none⟩=some (.int .u16 0)/\W.cell? ⟨w.heap.size+1,2,none⟩=some (.int .u8 0)/\W.cell? ⟨w.heap.size+1,3,none⟩=some (.bool false)/\W.cell? ⟨w.heap.size+1,4,none⟩=some (.int .u16 0)/\W.cell? ⟨w.heap.size+1,5,none⟩=some (.int .u16 0)/\W.cell? ⟨w.heap.size+1,6,none⟩=some (.int .u16 0)/\W.cell? ⟨w.heap.size+1,7,none⟩=some (.int .u8 0)/\W.cell? ⟨w.heap.size+1,8,none⟩=some (.bool false)/\W.cell? ⟨w.heap.size+1,9,none⟩=some (.int .u16 0)/\W.cell? ⟨w.heap.size+1,10,none⟩=some (.int .u16 0)/\W.cell? ⟨w.heap.size+1,11,none⟩=some (.int .u16 0)/\W.cell? ⟨w.heap.size+1,12,none⟩=some (.int .u8 0)/\W.cell? ⟨w.heap.size+1,13,none⟩=some (.bool false)/\W.cell? ⟨w.heap.size+1,14,none⟩=some (.int .u16 0)/\W.cell? ⟨w.heap.size+1,15,none⟩=some (.int .i64 0) :=
 ⟨h.r.at 0 _ rfl,h.r.at 1 _ rfl,h.r.at 2 _ rfl,h.r.at 3 _ rfl,h.r.at 4 _ rfl,h.r.at 5 _ rfl,h.r.at 6 _ rfl,h.r.at 7 _ rfl,h.r.at 8 _ rfl,h.r.at 9 _ rfl,h.r.at 10 _ rfl,h.r.at 11 _ rfl,h.r.at 12 _ rfl,h.r.at 13 _ rfl,h.r.at 14 _ rfl,h.r.at 15 _ rfl⟩
theorem SmW.alls{w W:World}{x:Sd}{l:List UInt8}{v:Value}(h:SmW w x l v W)(y:Sd):tM x (W.setCells (w.heap.size+1) 0 (iE y)) w.heap.size :=
 tM.of (h.b.fars (b':=w.heap.size+1) (by omega) 0 (iE y))
theorem SmW.drew{w W:World}{x:Sd}{l:List UInt8}{v:Value}(h:SmW w x l v W):SmW w x l v W.drew:=⟨h.low.drew,h.b.drew,h.r.drew,zno h.o (J W).drew⟩
theorem SmW.alls'{w W:World}{x:Sd}{l:List UInt8}{v:Value}(h:SmW w x l v W)(y:Sd):tM x (W.setCells (w.heap.size+1) 0 (iE y)).drew w.heap.size :=
 tM.of (h.b.fars (b':=w.heap.size+1) (by omega) 0 (iE y)).drew
theorem mn(W:World)(b:Nat)(x:Sd):((((((((((((((((W.setCell ⟨b,0,none⟩ (.int .u16 x.a.p)).setCell ⟨b,1,none⟩ (.int .u16 x.a.c)).setCell ⟨b,2,none⟩ (.int .u8 x.a.l)).setCell ⟨b,3,none⟩ (.bool x.a.h)).setCell ⟨b,4,none⟩ (.int .u16 x.a.n)).setCell ⟨b,5,none⟩ (.int .u16 x.b.p)).setCell ⟨b,6,none⟩ (.int .u16 x.b.c)).setCell ⟨b,7,none⟩ (.int .u8 x.b.l)).setCell ⟨b,8,none⟩ (.bool x.b.h)).setCell ⟨b,9,none⟩ (.int .u16 x.b.n)).setCell ⟨b,10,none⟩ (.int .u16 x.c.p)).setCell ⟨b,11,none⟩ (.int .u16 x.c.c)).setCell ⟨b,12,none⟩ (.int .u8 x.c.l)).setCell ⟨b,13,none⟩ (.bool x.c.h)).setCell ⟨b,14,none⟩ (.int .u16 x.c.n)).setCell ⟨b,15,none⟩ (.int .i64 x.w))=W.setCells b 0 (iE x):=rfl
theorem sliceAt.drew{W:World}{v:Value}{l:List UInt8}(h:sliceAt W v l):sliceAt W.drew v l:=h
theorem Bx.six{W:World}{b:Nat}{x:Sd}(h:Bx W b (iE x)):W.cell? ⟨b,0,none⟩=some (.int .u16 x.a.p)/\W.cell? ⟨b,1,none⟩=some (.int .u16 x.a.c)/\W.cell? ⟨b,2,none⟩=some (.int .u8 x.a.l)/\W.cell? ⟨b,3,none⟩=some (.bool x.a.h)/\W.cell? ⟨b,4,none⟩=some (.int .u16 x.a.n)/\W.cell? ⟨b,5,none⟩=some (.int .u16 x.b.p)/\W.cell? ⟨b,6,none⟩=some (.int .u16 x.b.c)/\W.cell? ⟨b,7,none⟩=some (.int .u8 x.b.l)/\W.cell? ⟨b,8,none⟩=some (.bool x.b.h)/\W.cell? ⟨b,9,none⟩=some (.int .u16 x.b.n)/\W.cell? ⟨b,10,none⟩=some (.int .u16 x.c.p)/\W.cell? ⟨b,11,none⟩=some (.int .u16 x.c.c)/\W.cell? ⟨b,12,none⟩=some (.int .u8 x.c.l)/\W.cell? ⟨b,13,none⟩=some (.bool x.c.h)/\W.cell? ⟨b,14,none⟩=some (.int .u16 x.c.n)/\W.cell? ⟨b,15,none⟩=some (.int .i64 x.w) :=
 ⟨h.at 0 _ rfl,h.at 1 _ rfl,h.at 2 _ rfl,h.at 3 _ rfl,h.at 4 _ rfl,h.at 5 _ rfl,h.at 6 _ rfl,h.at 7 _ rfl,h.at 8 _ rfl,h.at 9 _ rfl,h.at 10 _ rfl,h.at 11 _ rfl,h.at 12 _ rfl,h.at 13 _ rfl,h.at 14 _ rfl,h.at 15 _ rfl⟩
theorem j2{W:World}{b:Nat}(h:Bx W b zs):W.there b 0 16:=h.there 0 16 (by simp)
theorem jP(x:Sd):(#[.int .u16 x.a.p,.int .u16 x.a.c,.int .u8 x.a.l,.bool x.a.h,.int .u16 x.a.n,.int .u16 x.b.p,.int .u16 x.b.c,.int .u8 x.b.l,.bool x.b.h,.int .u16 x.b.n,.int .u16 x.c.p,.int .u16 x.c.c,.int .u8 x.c.l,.bool x.c.h,.int .u16 x.c.n,.int .i64 x.w]:Array Value).all (·.oneCell')=true:=by simp[Value.oneCell']
theorem zlO(v:Vc)(w:World)(h:v.ok):Calls prog 152 #[(.agg #[.int .u16 v.p,.int .u16 v.c,.int .u8 v.l,.bool v.h,.int .u16 v.n])] w λe w'=>e=.returned (.agg #[.int .u16 (v.tick).p,.int .u16 (v.tick).c,.int .u8 (v.tick).l,.bool (v.tick).h,.int .u16 (v.tick).n])/\Below w.heap.size w w':=by
 have hc:=h.c;have d:=h.n;by_cases a:v.c=0
 ·have hb:¬ (0<v.c):=by omega
  by_cases h1:v.n=0
  ·have e:v.tick=⟨v.p,v.p,v.l,!v.h,v.n⟩:=by unfold Vc.tick qd oI;rw[Q a,Q h1,Q h1,h1]
   rw[e];have b:=hid a;have e1:(v.n == 0)=true:=by simpa using h1
   clear a e h1;go_enter func152,ntmps152;go_wp2;refine ao (v:=.agg _) (by simp[results,results152,go_sem]) U ⟨U,?_⟩;exact(stA (stA (J _) _) _)
  ·have e1:(v.n == 0)=false:=by simpa using h1
   by_cases h2:v.n%2=1
   ·have e:v.tick=⟨v.p,v.p,v.l,true,bits .xor .u16 (v.n/2) 46080⟩:=by unfold Vc.tick qd oI nz;rw[Q a,G h1,G h1,Q h2,aL h2]
    rw[e];have b:=hid a;have e2:(v.n%2 == 1)=true:=by simpa using h2
    have e3:v.n.tdiv 2=v.n/2:=aD (by omega);have e4:IntKind.u16.wrap (v.n/2)=v.n/2:=by rw[bc];omega
    clear a e h1 h2;go_enter func152,ntmps152;go_wp2;refine ao (v:=.agg _) (by simp[results,results152,go_sem]) U ⟨U,?_⟩;exact(stA (stA (J _) _) _)
   ·have e:v.tick=⟨v.p,v.p,v.l,false,v.n/2⟩:=by unfold Vc.tick qd oI nz;rw[Q a,G h1,G h1,G h2,aF h2]
    rw[e];have b:=hid a;have e2:(v.n%2 == 1)=false:=by simpa using h2
    have e3:v.n.tdiv 2=v.n/2:=aD (by omega);have e4:IntKind.u16.wrap (v.n/2)=v.n/2:=by rw[bc];omega
    clear a e h1 h2;go_enter func152,ntmps152;go_wp2;refine ao (v:=.agg _) (by simp[results,results152,go_sem]) U ⟨U,?_⟩;exact(stA (stA (J _) _) _)
 ·have e:v.tick=⟨v.p,v.c-1,v.l,v.h,v.n⟩:=by unfold Vc.tick;rw[G a]
  rw[e];have hb:0<v.c:=by omega
  clear e a;go_enter func152,ntmps152;go_wp2;refine ao (v:=.agg _) (by simp[results,results152,go_sem]) U ⟨U,?_⟩;exact(stA (stA (J _) _) _)
theorem zlP(s:Sd)(w:World)(h:s.ok):Calls prog 72 #[(.agg #[.int .u16 s.a.p,.int .u16 s.a.c,.int .u8 s.a.l,.bool s.a.h,.int .u16 s.a.n,.int .u16 s.b.p,.int .u16 s.b.c,.int .u8 s.b.l,.bool s.b.h,.int .u16 s.b.n,.int .u16 s.c.p,.int .u16 s.c.c,.int .u8 s.c.l,.bool s.c.h,.int .u16 s.c.n,.int .i64 s.w])] w λe w'=>e=.returned (.int .u8 (lu s))/\Below w.heap.size w w':=by
 have j:=kx s.a;have lb:=kx s.b;have k:=kx s.c;have q0:=h.a.l;have q1:=h.b.l;have m:=h.c.l;have i0:=rI;have o:=rJ;have i2:=rK;go_enter func72,ntmps72;go_wp2;go_loopw [3,8] (λx i wr=>Below w.heap.size w wr/\((i=.int .i64 0/\x=.int .i64 0) \/ (i=.int .i64 1/\x=.int .i64 (ld s.a)) \/ (i=.int .i64 2/\x=.int .i64 (ld s.a+ld s.b)) \/ (i=.int .i64 3/\x=.int .i64 (lu s)))) (λ_ i _=>3-(intOf i).toNat)
 case atStart=>exact⟨stA (J _) _,Or.inl ⟨U,U⟩⟩
 case round =>
  obtain⟨hB,f⟩:=hrel;have g:=hid hB;clear hB;rcases f with⟨rfl,rfl⟩|⟨rfl,rfl⟩|⟨rfl,rfl⟩|⟨rfl,rfl⟩
  ·cases d:s.a.h
   ·have e:=oa d
    go_wp2;refine⟨⟨stA g.out _,Or.inr (Or.inl ⟨U,?_⟩)⟩,by decide⟩;first|rfl|rw[e]
   ·have e:=n9 d
    go_wp2;refine⟨⟨stA g.out _,Or.inr (Or.inl ⟨U,?_⟩)⟩,by decide⟩;first|rfl|rw[e]|(rw[e];simp)
  ·cases d:s.b.h
   ·have e:=oa d
    go_wp2;refine⟨⟨stA g.out _,Or.inr (Or.inr (Or.inl ⟨U,?_⟩))⟩,by decide⟩;first|rfl|(rw[e];simp)
   ·have e:=n9 d
    go_wp2;refine⟨⟨stA g.out _,Or.inr (Or.inr (Or.inl ⟨U,?_⟩))⟩,by decide⟩;first|rfl|rw[e]|(rw[e];simp)
  ·cases d:s.c.h
   ·have e:=oa d
    go_wp2;refine⟨⟨stA g.out _,Or.inr (Or.inr (Or.inr ⟨U,?_⟩))⟩,by decide⟩;first|rfl|(unfold lu;rw[e];simp)
   ·have e:=n9 d
    go_wp2;refine⟨⟨stA g.out _,Or.inr (Or.inr (Or.inr ⟨U,?_⟩))⟩,by decide⟩;first|rfl|(unfold lu;rw[e])|(unfold lu;rw[e];simp)
  ·have q:=zu0 s
   go_wp2;go_ret;exact⟨U,g.out⟩
theorem zoL(s:Sd)(w:World)(h:s.fit):Calls prog 76 #[(.agg #[.int .u16 s.a.p,.int .u16 s.a.c,.int .u8 s.a.l,.bool s.a.h,.int .u16 s.a.n,.int .u16 s.b.p,.int .u16 s.b.c,.int .u8 s.b.l,.bool s.b.h,.int .u16 s.b.n,.int .u16 s.c.p,.int .u16 s.c.c,.int .u8 s.c.l,.bool s.c.h,.int .u16 s.c.n,.int .i64 s.w])] w λe w'=>e=.returned (.agg #[.int .u16 (s.tick).a.p,.int .u16 (s.tick).a.c,.int .u8 (s.tick).a.l,.bool (s.tick).a.h,.int .u16 (s.tick).a.n,.int .u16 (s.tick).b.p,.int .u16 (s.tick).b.c,.int .u8 (s.tick).b.l,.bool (s.tick).b.h,.int .u16 (s.tick).b.n,.int .u16 (s.tick).c.p,.int .u16 (s.tick).c.c,.int .u8 (s.tick).c.l,.bool (s.tick).c.h,.int .u16 (s.tick).c.n,.int .i64 (s.tick).w])/\Below w.heap.size w w':=by
 have X:=h.w;go_enter func76,ntmps76;go_wp2;go_loopw [4] (λi wr=>(i=.int .i64 0/\SmW w s [] (.slice none 0 0) wr) \/ (i=.int .i64 1/\SmW w ⟨s.a.tick,s.b,s.c,s.w⟩ [] (.slice none 0 0) wr) \/ (i=.int .i64 2/\SmW w ⟨s.a.tick,s.b.tick,s.c,s.w⟩ [] (.slice none 0 0) wr) \/ (i=.int .i64 3/\SmW w ⟨s.a.tick,s.b.tick,s.c.tick,s.w⟩ [] (.slice none 0 0) wr)) (λi _=>3-(intOf i).toNat)
 case atStart=>exact Or.inl ⟨U,stA (stA (J w) _) _,(Bx.new w (iE s) _ U).over _,Bx.new _ zs _ (by simp),⟨U,Or.inl ⟨U,U⟩⟩⟩
 case round =>
  rcases hrel with⟨rfl,g⟩|⟨rfl,g⟩|⟨rfl,g⟩|⟨rfl,g⟩
  ·obtain⟨c0,c1,c2,c3,c4,c5,L,M,N,c9,o,q,t,u,x,m⟩:=g.b.six
   have I:=g.b.z;have tf:=g.b.f;have E:=hid g;clear g;go_wp2_with (go_at_call 152;refine(zlO s.a _ h.a).mono ?_;rintro e V ⟨rfl,y⟩;have d:=hid (E.out.kept y);obtain⟨c0,c1,c2,c3,c4,c5,L,M,N,c9,o,q,t,u,x,m⟩:=d.out.b.six;have I:=d.out.b.z;have tf:=d.out.b.f)
   exact⟨Or.inr (Or.inl ⟨U,d.out.v0 _⟩),by decide⟩
  ·obtain⟨c0,c1,c2,c3,c4,c5,L,M,N,c9,o,q,t,u,x,m⟩:=g.b.six
   have I:=g.b.z;have tf:=g.b.f;have E:=hid g;clear g;go_wp2_with (go_at_call 152;refine(zlO s.b _ h.b).mono ?_;rintro e V ⟨rfl,y⟩;have d:=hid (E.out.kept y);obtain⟨c0,c1,c2,c3,c4,c5,L,M,N,c9,o,q,t,u,x,m⟩:=d.out.b.six;have I:=d.out.b.z;have tf:=d.out.b.f)
   exact⟨Or.inr (Or.inr (Or.inl ⟨U,d.out.v1 _⟩)),by decide⟩
  ·obtain⟨c0,c1,c2,c3,c4,c5,L,M,N,c9,o,q,t,u,x,m⟩:=g.b.six
   have I:=g.b.z;have tf:=g.b.f;have E:=hid g;clear g;go_wp2_with (go_at_call 152;refine(zlO s.c _ h.c).mono ?_;rintro e V ⟨rfl,y⟩;have d:=hid (E.out.kept y);obtain⟨c0,c1,c2,c3,c4,c5,L,M,N,c9,o,q,t,u,x,m⟩:=d.out.b.six;have I:=d.out.b.z;have tf:=d.out.b.f)
   exact⟨Or.inr (Or.inr (Or.inr ⟨U,d.out.v2 _⟩)),by decide⟩
  ·have m:=g.w15
   have I:=g.b.z;have tf:=g.b.f;have E:=hid g;clear g;by_cases P:s.w=0
   ·have R:Hid (s.tick=⟨s.a.tick,s.b.tick,s.c.tick,15⟩):=by unfold Sd.tick;rw[Q P];trivial
    have Y:=hid P;rw[P] at m;clear P;have B:=hid ((E.out.wait (-1)).wait 15);go_wp2_with (first
     | (refine wpList_load_mid U 36 _ U w.heap.size 0 U (iE ⟨s.a.tick,s.b.tick,s.c.tick,15⟩) _ B.out.b.c underlying36 U kJ ?_)
     | (refine wpList_store_mid U 36 _ _ U (w.heap.size+1) 0 _ U U (j2 B.out.r) kJ (jP _) ?_
        refine Pl.cutL (λW=>Below w.heap.size w W/\Bx W (w.heap.size+1) (iE s.tick)) ⟨?_,?_⟩ ?_
        ·exact Bl.puts B.out.low (ek _) _
        ·rw[R.out];exact B.out.r.puts 0 (iE ⟨s.a.tick,s.b.tick,s.c.tick,15⟩) (by simp)
        rintro W ⟨j,k⟩;have F:=hid j;have H:=hid k;clear j k))
    have T:=lx H.out;exact ao (v:=(.agg #[.int .u16 (s.tick).a.p,.int .u16 (s.tick).a.c,.int .u8 (s.tick).a.l,.bool (s.tick).a.h,.int .u16 (s.tick).a.n,.int .u16 (s.tick).b.p,.int .u16 (s.tick).b.c,.int .u8 (s.tick).b.l,.bool (s.tick).b.h,.int .u16 (s.tick).b.n,.int .u16 (s.tick).c.p,.int .u16 (s.tick).c.c,.int .u8 (s.tick).c.l,.bool (s.tick).c.h,.int .u16 (s.tick).c.n,.int .i64 (s.tick).w])) (by simp only[results,results76];simp;exact T) U ⟨U,F.out⟩
   ·have R:Hid (s.tick=⟨s.a.tick,s.b.tick,s.c.tick,s.w-1⟩):=by unfold Sd.tick;rw[G P];trivial
    have h1:¬ (s.w-1<0):=by omega
    have B:=hid (E.out.wait (s.w-1));go_wp2_with (first
     | (refine wpList_load_mid U 36 _ U w.heap.size 0 U (iE ⟨s.a.tick,s.b.tick,s.c.tick,s.w-1⟩) _ B.out.b.c underlying36 U kJ ?_)
     | (refine wpList_store_mid U 36 _ _ U (w.heap.size+1) 0 _ U U (j2 B.out.r) kJ (jP _) ?_
        refine Pl.cutL (λW=>Below w.heap.size w W/\Bx W (w.heap.size+1) (iE s.tick)) ⟨?_,?_⟩ ?_
        ·exact Bl.puts B.out.low (ek _) _
        ·rw[R.out];exact B.out.r.puts 0 (iE ⟨s.a.tick,s.b.tick,s.c.tick,s.w-1⟩) (by simp)
        rintro W ⟨j,k⟩;have F:=hid j;have H:=hid k;clear j k))
    have T:=lx H.out;exact ao (v:=(.agg #[.int .u16 (s.tick).a.p,.int .u16 (s.tick).a.c,.int .u8 (s.tick).a.l,.bool (s.tick).a.h,.int .u16 (s.tick).a.n,.int .u16 (s.tick).b.p,.int .u16 (s.tick).b.c,.int .u8 (s.tick).b.l,.bool (s.tick).b.h,.int .u16 (s.tick).b.n,.int .u16 (s.tick).c.p,.int .u16 (s.tick).c.c,.int .u8 (s.tick).c.l,.bool (s.tick).c.h,.int .u16 (s.tick).c.n,.int .i64 (s.tick).w])) (by simp only[results,results76];simp;exact T) U ⟨U,F.out⟩
theorem zcy(a:Int)(w:World)(h:0<=a/\a<=65535):Calls prog 209 #[.int .u16 a] w λe w'=>e=.returned (.tuple #[.int .u8 (a/256),.int .u8 (a%256)])/\w=w':=by
 go_enter func209,ntmps209;go_wp2
 go_ret2
 exact⟨U,U⟩
theorem tx(a b:Int)(w:World)(c:0<=a/\a<=255)(hb:0<=b/\b<=255):Calls prog 211 #[.int .u8 a,.int .u8 b] w λe w'=>e=.returned (.int .u16 (a*256+b))/\w=w':=by
 have e:=M.joined a b c.1 c.2 hb.1 hb.2;go_enter func211,ntmps211;go_wp2;go_ret;exact⟨by first|rfl|(simp[e];done)|(rw[e]),U⟩
theorem znp(a b:Int)(w:World)(c:0<=a/\a<=65535)(hb:0<=b/\b<=255):Calls prog 347 #[.int .u16 a,.int .u8 b] w λe w'=>e=.returned (.int .u16 (b*256+a%256))/\w=w':=by
 go_enter func347,ntmps347;go_wp2_with (first
  | (go_at_call 209;refine(zcy a _ c).mono ?_;rintro e w1 ⟨rfl,rfl⟩)
  | (go_at_call 211;refine(tx b (a%256) _ hb ⟨by omega,by omega⟩).mono ?_;rintro e w1 ⟨rfl,rfl⟩))
 go_ret;exact⟨U,U⟩
theorem zqi(a b:Int)(w:World)(c:0<=a/\a<=65535)(hb:0<=b/\b<=255):Calls prog 349 #[.int .u16 a,.int .u8 b] w λe w'=>e=.returned (.int .u16 (a/256*256+b))/\w=w':=by
 go_enter func349,ntmps349;go_wp2_with (first
  | (go_at_call 209;refine(zcy a _ c).mono ?_;rintro e w1 ⟨rfl,rfl⟩)
  | (go_at_call 211;refine(tx (a/256) b _ ⟨by omega,by omega⟩ hb).mono ?_;rintro e w1 ⟨rfl,rfl⟩))
 go_ret;exact⟨U,U⟩
def Vc.put(v:Vc)(k:Nat)(b:Int):Vc :=
 if k=0 then ⟨b*256+v.p%256,v.c,v.l,v.h,v.n⟩ else if k=1 then ⟨v.p/256*256+b,v.c,v.l,v.h,v.n⟩ else if k=2 then ⟨v.p,v.c,b%16,v.h,v.n⟩
 else if k=3 then ⟨v.p,v.c,v.l,v.h,b*256+v.n%256⟩ else if k=4 then ⟨v.p,v.c,v.l,v.h,v.n/256*256+b⟩ else v
def Sd.put(s:Sd)(k:Nat)(b:Int):Sd:=if k<8 then ⟨s.a.put (k%8) b,s.b,s.c,s.w⟩ else if k<16 then ⟨s.a,s.b.put (k%8) b,s.c,s.w⟩ else ⟨s.a,s.b,s.c.put (k%8) b,s.w⟩
theorem zft(v:Vc)(b:Int)(w:World):Calls prog 345 #[(.agg #[.int .u16 v.p,.int .u16 v.c,.int .u8 v.l,.bool v.h,.int .u16 v.n]),.int .u8 b] w λe w'=>e=.returned (.agg #[.int .u16 v.p,.int .u16 v.c,.int .u8 v.l,.bool v.h,.int .u16 v.n])/\Below w.heap.size w w':=by
 go_enter func345,ntmps345;go_wp2;refine ao (v:=.agg _) (by simp[results,results345,go_sem]) U ⟨U,?_⟩;exact(stA (stA (J _) _) _)
theorem zxi(v:Vc)(b:Int)(w:World)(h:v.ok)(hb:0<=b/\b<=255):Calls prog 346 #[(.agg #[.int .u16 v.p,.int .u16 v.c,.int .u8 v.l,.bool v.h,.int .u16 v.n]),.int .u8 b] w λe w'=>e=.returned (.agg #[.int .u16 (v.put 0 b).p,.int .u16 (v.put 0 b).c,.int .u8 (v.put 0 b).l,.bool (v.put 0 b).h,.int .u16 (v.put 0 b).n])/\Below w.heap.size w w':=by
 go_enter func346,ntmps346;go_wp2_with (go_at_call 347;refine(znp v.p b _ h.p hb).mono ?_;rintro e w1 ⟨rfl,rfl⟩)
 refine ao (v:=.agg _) (by simp[results,results346,go_sem];exact⟨U,U,U,U,U⟩) U ⟨U,?_⟩;exact(stA (stA (J _) _) _)
theorem zxj(v:Vc)(b:Int)(w:World)(h:v.ok)(hb:0<=b/\b<=255):Calls prog 348 #[(.agg #[.int .u16 v.p,.int .u16 v.c,.int .u8 v.l,.bool v.h,.int .u16 v.n]),.int .u8 b] w λe w'=>e=.returned (.agg #[.int .u16 (v.put 1 b).p,.int .u16 (v.put 1 b).c,.int .u8 (v.put 1 b).l,.bool (v.put 1 b).h,.int .u16 (v.put 1 b).n])/\Below w.heap.size w w':=by
 go_enter func348,ntmps348;go_wp2_with (go_at_call 349;refine(zqi v.p b _ h.p hb).mono ?_;rintro e w1 ⟨rfl,rfl⟩)
 refine ao (v:=.agg _) (by simp[results,results348,go_sem];exact⟨U,U,U,U,U⟩) U ⟨U,?_⟩;exact(stA (stA (J _) _) _)
theorem zxk(v:Vc)(b:Int)(w:World)(h:v.ok)(hb:0<=b/\b<=255):Calls prog 350 #[(.agg #[.int .u16 v.p,.int .u16 v.c,.int .u8 v.l,.bool v.h,.int .u16 v.n]),.int .u8 b] w λe w'=>e=.returned (.agg #[.int .u16 (v.put 2 b).p,.int .u16 (v.put 2 b).c,.int .u8 (v.put 2 b).l,.bool (v.put 2 b).h,.int .u16 (v.put 2 b).n])/\Below w.heap.size w w':=by
 have e:=nI b hb;go_enter func350,ntmps350;go_wp2;refine ao (v:=.agg _) (by simp[results,results350,go_sem];exact⟨U,U,U,U,U⟩) U ⟨U,?_⟩;exact(stA (stA (J _) _) _)
theorem zxl(v:Vc)(b:Int)(w:World)(h:v.ok)(hb:0<=b/\b<=255):Calls prog 351 #[(.agg #[.int .u16 v.p,.int .u16 v.c,.int .u8 v.l,.bool v.h,.int .u16 v.n]),.int .u8 b] w λe w'=>e=.returned (.agg #[.int .u16 (v.put 3 b).p,.int .u16 (v.put 3 b).c,.int .u8 (v.put 3 b).l,.bool (v.put 3 b).h,.int .u16 (v.put 3 b).n])/\Below w.heap.size w w':=by
 go_enter func351,ntmps351;go_wp2_with (go_at_call 347;refine(znp v.n b _ h.n hb).mono ?_;rintro e w1 ⟨rfl,rfl⟩)
 refine ao (v:=.agg _) (by simp[results,results351,go_sem];exact⟨U,U,U,U,U⟩) U ⟨U,?_⟩;exact(stA (stA (J _) _) _)
theorem zxm(v:Vc)(b:Int)(w:World)(h:v.ok)(hb:0<=b/\b<=255):Calls prog 352 #[(.agg #[.int .u16 v.p,.int .u16 v.c,.int .u8 v.l,.bool v.h,.int .u16 v.n]),.int .u8 b] w λe w'=>e=.returned (.agg #[.int .u16 (v.put 4 b).p,.int .u16 (v.put 4 b).c,.int .u8 (v.put 4 b).l,.bool (v.put 4 b).h,.int .u16 (v.put 4 b).n])/\Below w.heap.size w w':=by
 go_enter func352,ntmps352;go_wp2_with (go_at_call 349;refine(zqi v.n b _ h.n hb).mono ?_;rintro e w1 ⟨rfl,rfl⟩)
 refine ao (v:=.agg _) (by simp[results,results352,go_sem];exact⟨U,U,U,U,U⟩) U ⟨U,?_⟩;exact(stA (stA (J _) _) _)
theorem zqj(w:World):Calls prog 281 #[] w λe w'=>e=.returned (.agg #[.func (.func 346) #[] #[],.func (.func 348) #[] #[],.func (.func 350) #[] #[],.func (.func 351) #[] #[],.func (.func 352) #[] #[],.func (.func 345) #[] #[],.func (.func 345) #[] #[],.func (.func 345) #[] #[]])/\Below w.heap.size w w':=by
 go_enter func281,ntmps281;go_wp2;refine ao (v:=.agg _) (by simp[results,results281,go_sem]) U ⟨U,?_⟩;exact(stA (J _) _)
theorem Bx.w0{W:World}{b:Nat}{x:Sd}(h:Bx W b (iE x)):W.cell? ⟨b,0,none⟩=some (.int .u16 x.a.p)/\W.cell? ⟨b,1,none⟩=some (.int .u16 x.a.c)/\W.cell? ⟨b,2,none⟩=some (.int .u8 x.a.l)/\W.cell? ⟨b,3,none⟩=some (.bool x.a.h)/\W.cell? ⟨b,4,none⟩=some (.int .u16 x.a.n)/\b<W.heap.size /\ ∀ o,W.frozen? ⟨b,o,none⟩=false :=
 ⟨h.at 0 _ rfl,h.at 1 _ rfl,h.at 2 _ rfl,h.at 3 _ rfl,h.at 4 _ rfl,h.z,h.f⟩
theorem Bx.w1{W:World}{b:Nat}{x:Sd}(h:Bx W b (iE x)):W.cell? ⟨b,5,none⟩=some (.int .u16 x.b.p)/\W.cell? ⟨b,6,none⟩=some (.int .u16 x.b.c)/\W.cell? ⟨b,7,none⟩=some (.int .u8 x.b.l)/\W.cell? ⟨b,8,none⟩=some (.bool x.b.h)/\W.cell? ⟨b,9,none⟩=some (.int .u16 x.b.n)/\b<W.heap.size /\ ∀ o,W.frozen? ⟨b,o,none⟩=false :=
 ⟨h.at 5 _ rfl,h.at 6 _ rfl,h.at 7 _ rfl,h.at 8 _ rfl,h.at 9 _ rfl,h.z,h.f⟩
theorem Bx.w2{W:World}{b:Nat}{x:Sd}(h:Bx W b (iE x)):W.cell? ⟨b,10,none⟩=some (.int .u16 x.c.p)/\W.cell? ⟨b,11,none⟩=some (.int .u16 x.c.c)/\W.cell? ⟨b,12,none⟩=some (.int .u8 x.c.l)/\W.cell? ⟨b,13,none⟩=some (.bool x.c.h)/\W.cell? ⟨b,14,none⟩=some (.int .u16 x.c.n)/\b<W.heap.size /\ ∀ o,W.frozen? ⟨b,o,none⟩=false :=
 ⟨h.at 10 _ rfl,h.at 11 _ rfl,h.at 12 _ rfl,h.at 13 _ rfl,h.at 14 _ rfl,h.z,h.f⟩
theorem SmW.two(w:World)(s:Sd):SmW w s [] (.slice none 0 0) ((w.alloc (.cells #[.int .u16 s.a.p,.int .u16 s.a.c,.int .u8 s.a.l,.bool s.a.h,.int .u16 s.a.n,.int .u16 s.b.p,.int .u16 s.b.c,.int .u8 s.b.l,.bool s.b.h,.int .u16 s.b.n,.int .u16 s.c.p,.int .u16 s.c.c,.int .u8 s.c.l,.bool s.c.h,.int .u16 s.c.n,.int .i64 s.w] 36)).alloc (.cells #[.int .u16 0,.int .u16 0,.int .u8 0,.bool false,.int .u16 0,.int .u16 0,.int .u16 0,.int .u8 0,.bool false,.int .u16 0,.int .u16 0,.int .u16 0,.int .u8 0,.bool false,.int .u16 0,.int .i64 0] 36)):=⟨stA (stA (J w) _) _,(Bx.new w (iE s) _ rfl).over _,Bx.new _ zs _ (by simp),⟨U,Or.inl ⟨U,U⟩⟩⟩
theorem ztz(a x1 x2 x3 b c d e:Value)(w:World):(Instr.index 357 (.agg #[a,x1,x2,x3,b,c,d,e]) (.int .i64 0)).run prog w=.ok a w:=by kernel_rfl
theorem ztA(a x1 x2 x3 b c d e:Value)(w:World):(Instr.index 357 (.agg #[a,x1,x2,x3,b,c,d,e]) (.int .i64 1)).run prog w=.ok x1 w:=by kernel_rfl
theorem ztB(a x1 x2 x3 b c d e:Value)(w:World):(Instr.index 357 (.agg #[a,x1,x2,x3,b,c,d,e]) (.int .i64 2)).run prog w=.ok x2 w:=by kernel_rfl
theorem ztC(a x1 x2 x3 b c d e:Value)(w:World):(Instr.index 357 (.agg #[a,x1,x2,x3,b,c,d,e]) (.int .i64 3)).run prog w=.ok x3 w:=by kernel_rfl
theorem ztD(b x1 x2 x3 a c d e:Value)(w:World):(Instr.index 357 (.agg #[b,x1,x2,x3,a,c,d,e]) (.int .i64 4)).run prog w=.ok a w:=by kernel_rfl
theorem ztE(b x1 x2 x3 c a d e:Value)(w:World):(Instr.index 357 (.agg #[b,x1,x2,x3,c,a,d,e]) (.int .i64 5)).run prog w=.ok a w:=by kernel_rfl
theorem ztF(b x1 x2 x3 c d a e:Value)(w:World):(Instr.index 357 (.agg #[b,x1,x2,x3,c,d,a,e]) (.int .i64 6)).run prog w=.ok a w:=by kernel_rfl
theorem ztG(b x1 x2 x3 c d e a:Value)(w:World):(Instr.index 357 (.agg #[b,x1,x2,x3,c,d,e,a]) (.int .i64 7)).run prog w=.ok a w:=by kernel_rfl
theorem ztH(v:Vc)(b:Int)(w:World):Calls prog 345 #[(.agg #[.int .u16 v.p,.int .u16 v.c,.int .u8 v.l,.bool v.h,.int .u16 v.n]),.int .u8 b] w λe w'=>e=.returned (.agg #[.int .u16 (v.put 5 b).p,.int .u16 (v.put 5 b).c,.int .u8 (v.put 5 b).l,.bool (v.put 5 b).h,.int .u16 (v.put 5 b).n])/\Below w.heap.size w w':=zft v b w
theorem ztI(v:Vc)(b:Int)(w:World):Calls prog 345 #[(.agg #[.int .u16 v.p,.int .u16 v.c,.int .u8 v.l,.bool v.h,.int .u16 v.n]),.int .u8 b] w λe w'=>e=.returned (.agg #[.int .u16 (v.put 6 b).p,.int .u16 (v.put 6 b).c,.int .u8 (v.put 6 b).l,.bool (v.put 6 b).h,.int .u16 (v.put 6 b).n])/\Below w.heap.size w w':=zft v b w
theorem ztJ(v:Vc)(b:Int)(w:World):Calls prog 345 #[(.agg #[.int .u16 v.p,.int .u16 v.c,.int .u8 v.l,.bool v.h,.int .u16 v.n]),.int .u8 b] w λe w'=>e=.returned (.agg #[.int .u16 (v.put 7 b).p,.int .u16 (v.put 7 b).c,.int .u8 (v.put 7 b).l,.bool (v.put 7 b).h,.int .u16 (v.put 7 b).n])/\Below w.heap.size w w':=zft v b w
theorem eqv(v:Vc)(d:Nat)(w:World):(Op.equalIn (d+2) 33 (.agg #[.int .u16 v.p,.int .u16 v.c,.int .u8 v.l,.bool v.h,.int .u16 v.n]) (.agg #[.int .u16 v.p,.int .u16 v.c,.int .u8 v.l,.bool v.h,.int .u16 v.n])).run prog w=.ok true w:=by
 have u3:=underlying22;have a3:=isAgg22;have z3:=sizeOf22;have u4:=underlying4;have a4:=isAgg4;have z4:=sizeOf4;have b:=underlying5;have a5:=isAgg5;have z5:=sizeOf5;have a:Tryz.prog.underlying 33=some (.struct (Tryz.prog.fieldsOf 33)):=by kernel_rfl
 have hp:Tryz.prog.stoodInHeld 33=false:=by kernel_rfl
 rw[cO w (d+1) 33 _ _ a hp];simp only[Program.fieldsOf,underlying33];go_simp
theorem ztx(s:Sd)(d:Nat)(w:World):(Op.equalIn (d+3) 34 (.agg #[.int .u16 s.a.p,.int .u16 s.a.c,.int .u8 s.a.l,.bool s.a.h,.int .u16 s.a.n,.int .u16 s.b.p,.int .u16 s.b.c,.int .u8 s.b.l,.bool s.b.h,.int .u16 s.b.n,.int .u16 s.c.p,.int .u16 s.c.c,.int .u8 s.c.l,.bool s.c.h,.int .u16 s.c.n]) (.agg #[.int .u16 s.a.p,.int .u16 s.a.c,.int .u8 s.a.l,.bool s.a.h,.int .u16 s.a.n,.int .u16 s.b.p,.int .u16 s.b.c,.int .u8 s.b.l,.bool s.b.h,.int .u16 s.b.n,.int .u16 s.c.p,.int .u16 s.c.c,.int .u8 s.c.l,.bool s.c.h,.int .u16 s.c.n])).run prog w=.ok true w:=by
 have g:=eqv s.a d;have h1:=eqv s.b d;have h2:=eqv s.c d;have a3:=isAgg33;have z3:=sizeOf33;have e:Tryz.prog.cellsOf 33=5:=by kernel_rfl
 have f:(Tryz.prog.info? 33).isSome=true:=by kernel_rfl
 obtain⟨i,hi⟩:=cL.1 f;rw[dT w (d+2) _ _ zdy hi,e];simp only[List.range,List.range.loop,Op.eqItems];go_simp
theorem zty(s:Sd)(w:World):(binOp .eql 36 (.agg #[.int .u16 s.a.p,.int .u16 s.a.c,.int .u8 s.a.l,.bool s.a.h,.int .u16 s.a.n,.int .u16 s.b.p,.int .u16 s.b.c,.int .u8 s.b.l,.bool s.b.h,.int .u16 s.b.n,.int .u16 s.c.p,.int .u16 s.c.c,.int .u8 s.c.l,.bool s.c.h,.int .u16 s.c.n,.int .i64 s.w]) (.agg #[.int .u16 s.a.p,.int .u16 s.a.c,.int .u8 s.a.l,.bool s.a.h,.int .u16 s.a.n,.int .u16 s.b.p,.int .u16 s.b.c,.int .u8 s.b.l,.bool s.b.h,.int .u16 s.b.n,.int .u16 s.c.p,.int .u16 s.c.c,.int .u8 s.c.l,.bool s.c.h,.int .u16 s.c.n,.int .i64 s.w])).run prog w=.ok (.bool true) w:=by
 have u3:=underlying3;have x3:=isAgg3;have z3:=sizeOf3;have e:=isAgg34;have z5:=sizeOf34;have f:=ztx s 9996;have d:Tryz.prog.underlying 36=some (.struct (Tryz.prog.fieldsOf 36)):=by kernel_rfl
 have hp:Tryz.prog.stoodInHeld 36=false:=by kernel_rfl
 rw[cn,show (10000:Nat)=9999+1 from U,cO w 9999 36 _ _ d hp];simp only[Program.fieldsOf,underlying36];go_simp
end Go.Proofs.YthghjlinhokimaaGreatDoor
namespace Go.Proofs.YthghjlinhokimaaGreatDoor.C
section
variable {σ : Type} {m : Mem σ}
theorem fuel_rdw(h1:∀ s a,m.fuel s<=m.fuel (m.rd s a).2)(s:σ)(a:Int):m.fuel s<=m.fuel (m.rdw s a).2:=by
 unfold Mem.rdw;exact ax (h1 s a) (h1 _ _)
theorem fuel_wrw(h2:∀ s a b,m.fuel s<=m.fuel (m.wr s a b)+1)(s:σ)(a n:Int):m.fuel s<=m.fuel (m.wrw s a n)+2:=by
 unfold Mem.wrw;have e1:=h2 s a (n/256);have e2:=h2 (m.wr s a (n/256)) ((a+1)%65536) (n%256);omega
theorem fuel_leave(h1:∀ s a,m.fuel s<=m.fuel (m.rd s a).2)(h2:∀ s a b,m.fuel s<=m.fuel (m.wr s a b)+1)(x:St σ)(a:Int):m.fuel x.s<=m.fuel (leave m x a).s+4:=by
 have e1:m.fuel x.s<=m.fuel (push m x x.c.PC).s+2:=fuel_wrw h2 _ _ _;have e2:m.fuel (push m x x.c.PC).s<=m.fuel (push m (push m x x.c.PC) (sign (push m x x.c.PC).c)).s+2:=fuel_wrw h2 _ _ _;have e3:m.fuel (push m (push m x x.c.PC) (sign (push m x x.c.PC).c)).s<=m.fuel (leave m x a).s:=fuel_rdw h1 _ _;omega
theorem fuel_act(h1:∀ s a,m.fuel s<=m.fuel (m.rd s a).2)(h2:∀ s a b,m.fuel s<=m.fuel (m.wr s a b)+1)(x:St σ)(k:Nat)(d s n w:Int):m.fuel x.s<=m.fuel (act m x k d s n w).s+4:=by
 have u0:m.fuel x.s<=m.fuel x.s+4:=gI _ _;have u2:∀ a n,m.fuel x.s<=m.fuel (m.wrw x.s a n)+4:=λa n=>by have:=fuel_wrw h2 x.s a n;omega
 have u1:∀ a n,m.fuel x.s<=m.fuel (m.wr x.s a n)+4:=λa n=>by have:=h2 x.s a n;omega
 have u3:∀ a,m.fuel x.s<=m.fuel (m.rdw x.s a).2+4:=λa=>by have:=fuel_rdw h1 x.s a;omega
 have u4:∀ a,m.fuel x.s<=m.fuel (m.rd x.s a).2+4:=λa=>by have:=h1 x.s a;omega
 have c:∀ a b,m.fuel x.s<=m.fuel (m.rdw (m.rdw x.s a).2 b).2+4:=λa b=>by have:=fuel_rdw h1 x.s a;have:=fuel_rdw h1 (m.rdw x.s a).2 b;omega
 unfold act;split
 ·exact u0
 ·exact u0
 ·exact u3 _
 ·exact u2 _ _
 ·exact u4 _
 ·exact u1 _ _
 ·exact u0
 ·exact u0
 ·exact u0
 ·exact u0
 ·exact u0
 ·exact u0
 ·exact u0
 ·exact u0
 ·exact u0
 ·exact u0
 ·split <;> exact u0
 ·split <;> exact u0
 ·split <;> exact u0
 ·exact u2 _ _
 ·exact u3 _
 ·exact u2 _ _
 ·exact u3 _
 ·exact u0
 ·exact u0
 ·exact c _ _
 ·exact u0
 ·exact u0
 ·split <;> exact u0
 ·exact fuel_leave h1 h2 x 4
 ·exact u0
theorem fuel_step(h1:∀ s a,m.fuel s<=m.fuel (m.rd s a).2)(h2:∀ s a b,m.fuel s<=m.fuel (m.wr s a b)+1)(c:Cpu)(s:σ)(r:Bool):m.fuel s<=m.fuel (step m c s r).s+4:=by
 unfold step;split
 ·exact fuel_leave h1 h2 ⟨c,s,0⟩ 2
 ·split
  ·exact gI _ _
  ·unfold order
   refine ax ?_ (fuel_act h1 h2 _ _ _ _ _ _);show m.fuel s<=m.fuel (behind m c s).s;unfold behind;simp only;split
   ·exact ax (fuel_rdw h1 _ _) (fuel_rdw h1 _ _)
   ·exact fuel_rdw h1 _ _
theorem act_n(x:St σ)(k:Nat)(d s n w:Int):(act m x k d s n w).n=x.n \/ (act m x k d s n w).n=x.n+1:=by
 unfold act;split;all_goals first
  | exact Or.inl U
  | exact Or.inr U
  | (split;exact Or.inr U;exact Or.inl U)
  | (split;exact Or.inl U;exact Or.inr U)
theorem cyc_bd:∀ k,k<32->0<=K.cyc k/\K.cyc k<=20:=by decide
theorem step_n(c:Cpu)(s:σ)(r:Bool)(a:O.rk (word1 m c s)<32):0<=(step m c s r).n/\(step m c s r).n<=21:=by
 unfold step;split
 ·exact⟨show (0:Int)<=6 by decide,show (6:Int)<=21 by decide⟩
 ·split
  ·exact⟨show (0:Int)<=1 by decide,show (1:Int)<=21 by decide⟩
  ·unfold order
   have hc:=cyc_bd _ a;rcases act_n (m:=m) { behind m c s with n:=K.cyc (O.rk (word1 m c s)) } (O.rk (word1 m c s)) (O.rD (word1 m c s)) (O.rS (word1 m c s)) (O.rN (word1 m c s)) (O.rW (word1 m c s) (word2 m c s)) with e|e
   ·rw[e];exact⟨hc.1,eA hc.2 (by decide)⟩
   ·rw[e]
    have h1:=hc.1;have h2:=hc.2;show 0<=K.cyc (O.rk (word1 m c s))+1/\K.cyc (O.rk (word1 m c s))+1<=21;omega
end
end Go.Proofs.YthghjlinhokimaaGreatDoor.C
namespace Go.Proofs.YthghjlinhokimaaGreatDoor.C
section
variable {σ : Type} {m : Mem σ} {P : σ -> Prop}
theorem keeps_rdw(h1:∀ s a,P s->P (m.rd s a).2)(s:σ)(a:Int)(h:P s):P (m.rdw s a).2:=by
 unfold Mem.rdw;exact h1 _ _ (h1 _ _ h)
theorem keeps_wrw(h2:∀ s a b,P s->P (m.wr s a b))(s:σ)(a n:Int)(h:P s):P (m.wrw s a n):=by
 unfold Mem.wrw;exact h2 _ _ _ (h2 _ _ _ h)
theorem keeps_leave(h1:∀ s a,P s->P (m.rd s a).2)(h2:∀ s a b,P s->P (m.wr s a b))(x:St σ)(a:Int)(h:P x.s):P (leave m x a).s:=by
 have e1:P (push m x x.c.PC).s:=keeps_wrw h2 _ _ _ h;have e2:P (push m (push m x x.c.PC) (sign (push m x x.c.PC).c)).s:=keeps_wrw h2 _ _ _ e1;exact keeps_rdw h1 _ _ e2
theorem keeps_act(h1:∀ s a,P s->P (m.rd s a).2)(h2:∀ s a b,P s->P (m.wr s a b))(x:St σ)(k:Nat)(d s n w:Int)(h:P x.s):P (act m x k d s n w).s:=by
 have u2:∀ a n,P (m.wrw x.s a n):=λa n=>keeps_wrw h2 _ _ _ h
 have u1:∀ a n,P (m.wr x.s a n):=λa n=>h2 _ _ _ h
 have u3:∀ a,P (m.rdw x.s a).2:=λa=>keeps_rdw h1 _ _ h
 have u4:∀ a,P (m.rd x.s a).2:=λa=>h1 _ _ h
 have c:∀ a b,P (m.rdw (m.rdw x.s a).2 b).2:=λa b=>keeps_rdw h1 _ _ (u3 a)
 unfold act;split
 ·exact h
 ·exact h
 ·exact u3 _
 ·exact u2 _ _
 ·exact u4 _
 ·exact u1 _ _
 ·exact h
 ·exact h
 ·exact h
 ·exact h
 ·exact h
 ·exact h
 ·exact h
 ·exact h
 ·exact h
 ·exact h
 ·split <;> exact h
 ·split <;> exact h
 ·split <;> exact h
 ·exact u2 _ _
 ·exact u3 _
 ·exact u2 _ _
 ·exact u3 _
 ·exact h
 ·exact h
 ·exact c _ _
 ·exact h
 ·exact h
 ·split <;> exact h
 ·exact keeps_leave h1 h2 x 4 h
 ·exact h
theorem keeps_step(h1:∀ s a,P s->P (m.rd s a).2)(h2:∀ s a b,P s->P (m.wr s a b))(c:Cpu)(s:σ)(r:Bool)(h:P s):P (step m c s r).s:=by
 unfold step;split
 ·exact keeps_leave h1 h2 ⟨c,s,0⟩ 2 h
 ·split
  ·exact h
  ·unfold order
   refine keeps_act h1 h2 _ _ _ _ _ _ ?_;show P (behind m c s).s;unfold behind;simp only;split
   ·exact keeps_rdw h1 _ _ (keeps_rdw h1 _ _ h)
   ·exact keeps_rdw h1 _ _ h
end
end Go.Proofs.YthghjlinhokimaaGreatDoor.C
namespace Go.Proofs.YthghjlinhokimaaGreatDoor
open Go.ChangeShapes Go.WideShapes Go.ChangeAt Go.RowKit Go.Proofs.Tryz
theorem fld{H:Type}{enc:TypeId × Value->H}{P:Program}{w:World}{base:Nat}{spare:Nat->Bool}{held:Bool}{n i o:Nat}{ty:TypeId}{cs:List Value}{xs:List (DataW H × List MemPlace)}
 (h:DataW.trod enc P w base spare held n ty ((cs.drop o).take (P.cellsOf ty))=xs[i]?) (hi:i<xs.length) (hc:P.cellsOf ty=1) {v:Value} (a:cs[o]?=some v):∃ y,DataW.trod enc P w base spare held n ty [v]=some y:=by
 rw[hc,au hi] at h;have e:(cs.drop o).take 1=[v]:=by
  rw[kg,jz,a];rfl
 rw[e] at h;exact⟨_,h⟩
theorem ki{H:Type}{enc:TypeId × Value->H}{P:Program}{w:World}{base:Nat}{spare:Nat->Bool}{held:Bool}{n i o:Nat}{ty:TypeId}{cs:List Value}{xs:List (DataW H × List MemPlace)}{k:IntKind}
 (h:DataW.trod enc P w base spare held n ty ((cs.drop o).take (P.cellsOf ty))=xs[i]?) (hi:i<xs.length) (hc:P.cellsOf ty=1) (b:P.underlying ty=some (.int k)) {v:Value} (c:cs[o]?=some v):∃ a:Int,v=.int k a/\(Lit.int k a).wf=true:=by
 obtain⟨y,d⟩:=fld h hi hc c;obtain⟨a,e,_,f⟩:=jV b d;simp only[cN,and_true] at e;exact⟨a,e,f⟩
theorem zkU{W:World}{l:List (String × DataW Unit)}(h:laidMet prog l W)(b:("strings.asciiSpace",Rows.laid_strings_asciiSpace)∈l):Lib.TabIs prog W "strings.asciiSpace" .u8 Lib.asciiSpaceTab:=by
 obtain⟨g,t,cs,fuel,p,c,d,e,a⟩:=Lib.laidMet.reads h b;have e1:Tryz.prog.globalNamed "strings.asciiSpace" = some 1:=by kernel_rfl
 have e2:(Tryz.prog.globals[1]?).map (·.type)=some 335:=by kernel_rfl
 obtain rfl:=aH (e1.symm.trans c);obtain rfl:=aH (e2.symm.trans d);have e3:(Rows.laid_strings_asciiSpace:DataW Unit)=Lib.tabData .u8 Lib.asciiSpaceTab:=by kernel_rfl
 rw[e3] at a;unfold Lib.TabIs;rw[e,<- Lib.cells_of_tab underlying335 underlying5 (by kernel_rfl) (by kernel_rfl) a]
theorem zdp{W:World}{l:List (String × DataW Unit)}(h:laidMet prog l W)(w:("marquee/order.shapes",Rows.laid_marquee_order_shapes)∈l):aZ W:=by
 obtain⟨g,t,cs,fuel,p,e,x,f,o⟩:=Lib.laidMet.reads h w;have e1:Tryz.prog.globalNamed "marquee/order.shapes" = some 2:=by kernel_rfl
 have e2:(Tryz.prog.globals[2]?).map (·.type)=some 367:=by kernel_rfl
 obtain rfl:=aH (e1.symm.trans e);obtain rfl:=aH (e2.symm.trans x);have e3:(Rows.laid_marquee_order_shapes:DataW Unit)=.agg ((List.range 32).map λk=>.agg [.lit (.string (O.nameS k).data.toList),.lit (.int .i64 (K.cyc k)),.lit (.int .i64 (O.mask k))]):=by kernel_rfl
 rw[e3] at o;intro k r;obtain⟨i,d,q,c,u⟩:=Lib.array_elem underlying367 o k r;simp only[aX,dV r,eJ,aP] at c;subst c;have c3:Tryz.prog.cellsOf 328=3:=by kernel_rfl
 have c9:Tryz.prog.cellsOf 9=1:=by kernel_rfl
 have c1:Tryz.prog.cellsOf 3=1:=by kernel_rfl
 rw[c3] at u;obtain⟨y,z,B,n,v,_,j,h1,h2⟩:=Deep.trod_struct3 underlying328 u;simp only[dD,DataW.agg.injEq,cN,and_true] at v;obtain⟨⟨m,x1,x2⟩,_⟩:=v;dsimp only at j h1 h2;rw[c9] at j;rw[c1] at h1 h2;obtain⟨s,s0,s1,_⟩:=DataW.trod_string underlying9 j;obtain⟨a,a0,a1,_⟩:=jV underlying3 h1;obtain⟨b,b0,b1,_⟩:=jV underlying3 h2;rw[s1] at m;rw[a1] at x1;rw[b1] at x2;simp only[DataW.lit.injEq,Lit.string.injEq,Lit.int.injEq,true_and] at m x1 x2;have es:s=O.nameS k:=ka (Array.toList_inj.1 m.symm);subst es;subst x1;subst x2;have f0:=congrArg (·[0]?) s0;have f1:=congrArg (·[0]?) a0;have f2:=congrArg (·[0]?) b0;simp[fQ] at f0 f1 f2;refine⟨?_,?_,?_⟩
 ·rw[gW e f (k*3),f0]
 ·rw[gW e f (k*3+1),f1]
 ·rw[gW e f (k*3+2),f2]
theorem zhK{W:World}{l:List (String × DataW Unit)}(h:laidMet prog l W)(a:W.ShapedOpen prog)(h1:("strings.asciiSpace",Rows.laid_strings_asciiSpace)∈l)(h2:("marquee/order.shapes",Rows.laid_marquee_order_shapes)∈l):Facts W :=
 ⟨zkU h h1,zfk a,zdp h h2⟩
theorem zse{w:World}(h:Facts w):1<w.heap.size/\0<w.heap.size/\2<w.heap.size:=by
 obtain⟨t,⟨m,b⟩,s⟩:=h;refine⟨?_,aG w _ b,aG w _ (s 0 (by decide)).1⟩;unfold Lib.TabIs World.var? at t;rw[zkT] at t;simp only[kO] at t;by_cases a:1<w.heap.size
 ·exact a
 ·rw[gu (Nat.le_of_not_lt a)] at t
  cases t
end Go.Proofs.YthghjlinhokimaaGreatDoor
