/-
  Parts of a proof, joined.
-/
import Derived.Test.YthghjlinhokimaaGreatDoorZcA
import Derived.Test.YthghjlinhokimaaGreatDoorZc33
import Derived.Test.YthghjlinhokimaaGreatDoorZc37
import Derived.Test.YthghjlinhokimaaGreatDoorZc38
import Derived.Test.YthghjlinhokimaaGreatDoorZc36
import Derived.Test.YthghjlinhokimaaGreatDoorZc32
import Derived.Test.YthghjlinhokimaaGreatDoorZc35
set_option linter.all false
set_option maxRecDepth 100000
set_option maxHeartbeats 6400000
namespace Go.Proofs.YthghjlinhokimaaGreatDoor
open Go.ChangeShapes Go.WideShapes Go.ChangeAt Go.RowKit Go.Proofs.Tryz
section
variable {q : Qe} {w : World} {x : C.St Bst} {d e1 : Nat} {n v : Int}
theorem znE(R:QS q)(k:Nat)(o:k<32)(p:k≠30)(a:d<8)(b:e1<8)(f:-16<=n/\n<=15)(g:0<=v/\v<=65535)(i:k=12 \/ k=13->0<=n)(l:x.c.ok)(j:4<=q.m.fuel x.s):oR q w k d e1 n v x (C.act q.m ⟨x.c,x.s,K.cyc k⟩ k d e1 n v):=by
 have bd:=C.Cpu.r_bd l d;have be:=C.Cpu.r_bd l e1;have r:k=0 \/ k=1 \/ k=2 \/ k=3 \/ k=4 \/ k=5 \/ k=6 \/ k=7 \/ k=8 \/ k=9 \/ k=10 \/ k=11 \/ k=12 \/ k=13 \/ k=14 \/ k=15 \/ k=16 \/ k=17 \/ k=18 \/ k=19 \/ k=20 \/ k=21 \/ k=22 \/ k=23 \/ k=24 \/ k=25 \/ k=26 \/ k=27 \/ k=28 \/ k=29 \/ k=31:=by omega
 rcases r with rfl|rfl|rfl|rfl|rfl|rfl|rfl|rfl|rfl|rfl|rfl|rfl|rfl|rfl|rfl|rfl|rfl|rfl|rfl|rfl|rfl|rfl|rfl|rfl|rfl|rfl|rfl|rfl|rfl|rfl|rfl
 ·exact iu R 0 d e1 ⟨#[110,111,112]⟩ (by kernel_rfl) a b f (by omega) (by kernel_rfl) U U U U U U U U (wX R a b)
 ·exact iu R 1 d e1 ⟨#[109,111,118]⟩ (by kernel_rfl) a b f (by omega) (by kernel_rfl) U U U U U U U U (wY R a b)
 ·exact iu R 2 d e1 ⟨#[108,100,105]⟩ (by kernel_rfl) a b f (by omega) (by kernel_rfl) U U U U U U U U (wZ R a b g)
 ·exact iu R 3 d e1 ⟨#[108,100]⟩ (by kernel_rfl) a b f (by omega) (by kernel_rfl) U U U U U U U U (xa R a b)
 ·exact iu R 4 d e1 ⟨#[115,116]⟩ (by kernel_rfl) a b f (by omega) (by kernel_rfl) U U U U U U U U (xe R a b (by omega))
 ·exact iu R 5 d e1 ⟨#[108,100,98]⟩ (by kernel_rfl) a b f (by omega) (by kernel_rfl) U U U U U U U U (xh R a b)
 ·exact iu R 6 d e1 ⟨#[115,116,98]⟩ (by kernel_rfl) a b f (by omega) (by kernel_rfl) U U U U U U U U (xi R a b (by omega))
 ·exact kV R 7 ⟨#[97,100,100]⟩ (by kernel_rfl) a b false false (by kernel_rfl) (by kernel_rfl) _ _ _ _ U (M.addN_bd _ _) _ U (λW=>zrs 7 _ _ W bd.1 bd.2 be.1 be.2 (Or.inl U))
 ·exact kV R 8 ⟨#[115,117,98]⟩ (by kernel_rfl) a b false false (by kernel_rfl) (by kernel_rfl) _ _ _ _ U (M.subN_bd _ _) _ U (λW=>zrt 8 _ _ W bd.1 bd.2 be.1 be.2 (Or.inl U))
 ·exact kV R 9 ⟨#[97,110,100]⟩ (by kernel_rfl) a b false false (by kernel_rfl) (by kernel_rfl) _ _ _ _ U (M.and_bd _ _ bd.1 bd.2 be.1 be.2) _ U (λW=>zwn _ _ W bd.1 bd.2 be.1 be.2)
 ·exact kV R 10 ⟨#[111,114]⟩ (by kernel_rfl) a b false false (by kernel_rfl) (by kernel_rfl) _ _ _ _ U (M.or_bd _ _ bd.1 bd.2 be.1 be.2) _ U (λW=>zx1 _ _ W bd.1 bd.2 be.1 be.2)
 ·exact kV R 11 ⟨#[120,111,114]⟩ (by kernel_rfl) a b false false (by kernel_rfl) (by kernel_rfl) _ _ _ _ U (M.xor_bd _ _ bd.1 bd.2 be.1 be.2) _ U (λW=>zwo _ _ W bd.1 bd.2 be.1 be.2)
 ·exact iu R 12 d e1 ⟨#[115,104,108]⟩ (by kernel_rfl) a b f (by omega) (by kernel_rfl) U U U U U U U U (zya R a b f (i (by omega)))
 ·exact iu R 13 d e1 ⟨#[115,104,114]⟩ (by kernel_rfl) a b f (by omega) (by kernel_rfl) U U U U U U U U (zyb R a b f (i (by omega)))
 ·exact kV R 14 ⟨#[99,109,112]⟩ (by kernel_rfl) a b false true (by kernel_rfl) (by kernel_rfl) _ _ _ _ U (M.subN_bd _ _) _ U (λW=>zrt 14 _ _ W bd.1 bd.2 be.1 be.2 (Or.inr U))
 ·exact kV R 15 ⟨#[97,100,100,105]⟩ (by kernel_rfl) a b true false (by kernel_rfl) (by kernel_rfl) _ _ _ _ U (M.addN_bd _ _) _ U (λW=>zrs 15 _ _ W bd.1 bd.2 (by omega) (by omega) (Or.inr U))
 ·exact iu R 16 d e1 ⟨#[106,109,112]⟩ (by kernel_rfl) a b f (by omega) (by kernel_rfl) U U U U U U U U (mT R 16 _ (by kernel_rfl) true g (by kernel_rfl) (by rfl) (by decide))
 ·exact iu R 17 d e1 ⟨#[106,122]⟩ (by kernel_rfl) a b f (by omega) (by kernel_rfl) U U U U U U U U (mT R 17 _ (by kernel_rfl) x.c.Z g (by kernel_rfl) (by rfl) (by decide))
 ·exact iu R 18 d e1 ⟨#[106,110]⟩ (by kernel_rfl) a b f (by omega) (by kernel_rfl) U U U U U U U U (mT R 18 _ (by kernel_rfl) x.c.N g (by kernel_rfl) (by rfl) (by decide))
 ·exact iu R 19 d e1 ⟨#[106,99]⟩ (by kernel_rfl) a b f (by omega) (by kernel_rfl) U U U U U U U U (mT R 19 _ (by kernel_rfl) x.c.C g (by kernel_rfl) (by rfl) (by decide))
 ·exact iu R 20 d e1 ⟨#[99,97,108,108]⟩ (by kernel_rfl) a b f (by omega) (by kernel_rfl) U U U U U U U U (zx5 R a b (by omega) g)
 ·exact iu R 21 d e1 ⟨#[114,101,116]⟩ (by kernel_rfl) a b f (by omega) (by kernel_rfl) U U U U U U U U (zx6 R a b)
 ·exact iu R 22 d e1 ⟨#[112,117,115,104]⟩ (by kernel_rfl) a b f (by omega) (by kernel_rfl) U U U U U U U U (zx7 R a b (by omega))
 ·exact iu R 23 d e1 ⟨#[112,111,112]⟩ (by kernel_rfl) a b f (by omega) (by kernel_rfl) U U U U U U U U (zx8 R a b)
 ·exact iu R 24 d e1 ⟨#[101,105]⟩ (by kernel_rfl) a b f (by omega) (by kernel_rfl) U U U U U U U U (zx2 R a b)
 ·exact iu R 25 d e1 ⟨#[100,105]⟩ (by kernel_rfl) a b f (by omega) (by kernel_rfl) U U U U U U U U (zx3 R a b)
 ·exact iu R 26 d e1 ⟨#[114,116,105]⟩ (by kernel_rfl) a b f (by omega) (by kernel_rfl) U U U U U U U U (zyc R)
 ·exact iu R 27 d e1 ⟨#[104,108,116]⟩ (by kernel_rfl) a b f (by omega) (by kernel_rfl) U U U U U U U U (zx4 R a b)
 ·exact kV R 28 ⟨#[109,117,108]⟩ (by kernel_rfl) a b false false (by kernel_rfl) (by kernel_rfl) _ _ _ _ U (M.mulN_bd _ _) _ U (λW=>zwm _ _ W bd.1 bd.2 be.1 be.2)
 ·refine iu R 29 d e1 ⟨#[106,110,122]⟩ (by kernel_rfl) a b f (by omega) (by kernel_rfl) U U U U U U U U ?_
  have h:=mT (w:=w) (d:=d) (e1:=e1) (n:=n) (x:=x) R 29 ⟨#[106,110,122]⟩ (by kernel_rfl) (!x.c.Z) g (by kernel_rfl) (by rfl) (by decide);have e:C.act q.m ⟨x.c,x.s,K.cyc 29⟩ 29 d e1 n v=if (!x.c.Z) then C.jump ⟨x.c,x.s,K.cyc 29⟩ v else ⟨x.c,x.s,K.cyc 29⟩:=by
   show (if x.c.Z then _ else _)=_;cases x.c.Z <;> rfl
  rw[e];exact h
 ·exact iu R 31 d e1 ⟨#[116,114,97,112]⟩ (by kernel_rfl) a b f (by omega) (by kernel_rfl) U U U U U U U U (zx9 R a b j)
theorem rW_0(a:Int):O.rW a 0=0:=by unfold O.rW;split <;> rfl
theorem ztZ(a:Int):(O.rLen a=1 /\ ∀ b,O.rW a b=0) \/ (O.rLen a=2 /\ ∀ b,O.rW a b=b):=by
 unfold O.rLen O.rW;cases O.hasC (O.rk a) 119
 ·exact Or.inl ⟨U,λb=>U⟩
 ·exact Or.inr ⟨U,λb=>U⟩
theorem zlU(R:QS q)(c:C.Cpu)(hc:c.ok)(w:World)(s:Bst)(p:q.I w s)(g:4<=q.m.fuel s)(r:Bool)(t:c.Waits=false)(u:r=true->c.May=false):Calls prog 73 #[gx c,q.v,.bool r] w (RP q w (C.order q.m c s)):=by
 have h:=hc.2.2;have y:=R.word s c.PC;have h1:=λW b=>tP R c.PC h.1 h.2 W s b
 have i:=R.word (q.m.rdw s c.PC).2 ((c.PC+2)%65536);have h3:=λW b=>tP R ((c.PC+2)%65536) (by omega) (by omega) W (q.m.rdw s c.PC).2 b
 have f1:=R.frdw s c.PC;have f2:=R.frdw (q.m.rdw s c.PC).2 ((c.PC+2)%65536);have e:C.order q.m c s=C.act q.m ⟨(C.behind q.m c s).c,(C.behind q.m c s).s,K.cyc (O.rk (C.word1 q.m c s))⟩ (O.rk (C.word1 q.m c s)) (O.rD (C.word1 q.m c s)) (O.rS (C.word1 q.m c s)) (O.rN (C.word1 q.m c s)) (O.rW (C.word1 q.m c s) (C.word2 q.m c s)):=U;unfold C.behind C.word2 at e;have H:C.word1 q.m c s=(q.m.rdw s c.PC).1:=U;rw[H] at e;generalize (q.m.rdw s c.PC).1=a at *;generalize (q.m.rdw s c.PC).2=s1 at *;have h2:=λW b=>zlT a 0 y (by omega) W b
 obtain⟨f,j,l⟩:=lZ a y;have z:=qH a;have B:=qI a;have E:=qJ a;have k:=vD a;rw[l,rW_0] at h2;obtain⟨d,F⟩:=aB z.1;obtain⟨e1,es⟩:=aB B.1;rw[F,es] at h2 e;rw[F] at z;rw[es] at B;rcases ztZ a with⟨n,b⟩|⟨n,b⟩
 ·rw[n] at h2 e
  rw[b] at e;have o:C.order q.m c s=C.act q.m ⟨{ c with PC:=(c.PC+2)%65536 },s1,K.cyc (O.rk a)⟩ (O.rk a) d e1 (O.rN a) 0:=by rw[e];rfl
  rw[o];exact wU R c hc w s s1 a p t r u h1 (O.rk a) d e1 (O.rN a) f h2 _ (znE (w:=w) (x:=⟨{ c with PC:=(c.PC+2)%65536 },s1,0⟩) R (O.rk a) f j (by omega) (by omega) E (by omega) k (C.Cpu.ok_pc hc _ (by omega) (by omega)) (ax g f1))
 ·rw[n] at h2 e
  rw[b] at e;have o:C.order q.m c s=C.act q.m ⟨{ c with PC:=(c.PC+4)%65536 },(q.m.rdw s1 ((c.PC+2)%65536)).2,K.cyc (O.rk a)⟩ (O.rk a) d e1 (O.rN a) (q.m.rdw s1 ((c.PC+2)%65536)).1:=by rw[e];rfl
  rw[o];exact wV R c hc w s s1 _ a _ p t r u h1 (O.rk a) d e1 (O.rN a) f h2 h3 i _ (znE (w:=w) (x:=⟨{ c with PC:=(c.PC+4)%65536 },(q.m.rdw s1 ((c.PC+2)%65536)).2,0⟩) R (O.rk a) f j (by omega) (by omega) E i k (C.Cpu.ok_pc hc _ (by omega) (by omega)) (ax g (ax f1 f2)))
theorem zlV(R:QS q)(c:C.Cpu)(hc:c.ok)(w:World)(s:Bst)(e:q.I w s)(f:c.Waits=true)(r:Bool)(d:r=true->c.May=false):Calls prog 73 #[gx c,q.v,.bool r] w (RP q w ⟨c,s,1⟩):=by
 have a:=hid e;have b:=hid R;clear e R;unfold Qe.v;cases r;rotate_left 1
 ·have g:=d U
  clear d;go_enter func73,ntmps73;go_wp2;exact ao (v:=.tuple #[gx c,.int .i64 1]) (by simp[results,results73,go_sem,f,g]) U ⟨U,b.out.kept a.out (stA (stA (stA (stA (J w) _) _) _) _),Gw.of_below (b.out.bg a.out) (stA (stA (stA (stA (J w) _) _) _) _),hc⟩
 ·clear d
  go_enter func73,ntmps73;go_wp2;exact ao (v:=.tuple #[gx c,.int .i64 1]) (by simp[results,results73,go_sem,f]) U ⟨U,b.out.kept a.out (stA (stA (stA (stA (J w) _) _) _) _),Gw.of_below (b.out.bg a.out) (stA (stA (stA (stA (J w) _) _) _) _),hc⟩
theorem zoY(R:QS q)(c:C.Cpu)(hc:c.ok)(w:World)(s:Bst)(t:q.I w s)(d:4<=q.m.fuel s)(u:c.May=true):Calls prog 73 #[gx c,q.v,.bool true] w (RP q w { C.leave q.m ⟨c,s,0⟩ 2 with n:=6 }):=by
 have y:=hid R;have z:=hid (SW.start R c hc w s t 0);have H:=hid u;have k:=hid d;clear t R u d;unfold Qe.v;go_enter func73,ntmps73;go_upto_region 4 with fail
 refine cutW (λW=>SW q [] w W ⟨c,s,0⟩) z.out ?_;intro W f;obtain⟨B,E,g,h,i,b,j⟩:=f.cells;have P:=f.lt;have T:=f.fz;rw[show (⟨c,s,0⟩:C.St Bst).c.May=true from H.out] at b;have L:=hid f;clear f z;go_wp2_with (first
  | (go_at_call 140;refine(zhh (x:=⟨c,s,0⟩) y.out 2 (by decide) (by decide) k.out L.out).mono ?_;rintro e V ⟨rfl,a⟩;have l:=hid a;clear B E g h i b j;obtain⟨r0,r1,r2,r3,r4,X,Y,Z⟩:=a.regs;obtain⟨B,E,g,h,i,b,j⟩:=a.cells;have M:=a.lt;clear a)
  | (refine wpList_store_mid U 25 (.tmp 6) _ U (w.heap.size+1+1) 0 _ U U ?_ ?_ ?_ ?_
     ·exact l.out.there
     ·exact lV
     ·exact zd2 (C.leave q.m ⟨c,s,0⟩ 2).c
     refine cutL (λW=>q.I W (C.leave q.m ⟨c,s,0⟩ 2).s/\Gw q.F w W/\W.rangeAt (w.heap.size+1+1) 0 (gO (C.leave q.m ⟨c,s,0⟩ 2).c)) ?_ ?_
     ·exact l.out.fin y.out (gO (C.leave q.m ⟨c,s,0⟩ 2).c) U
     rintro W ⟨o,p,r⟩))
 have N:=zfa W _ _ r;refine ao (v:=.tuple #[gx (C.leave q.m ⟨c,s,0⟩ 2).c,.int .i64 6]) ?_ U ⟨U,o,p,l.out.ok⟩;simp only[results,results73];simp;show (Result.andThen (Sem.run prog (loadVar 25 ⟨w.heap.size+1+1,0,none⟩) W) _)=_;rw[N];rfl
theorem zjV(R:QS q)(c:C.Cpu)(hc:c.ok)(w:World)(s:Bst)(f:q.I w s)(a:4<=q.m.fuel s)(r:Bool):Calls prog 73 #[gx c,q.v,.bool r] w (RP q w (C.step q.m c s r)):=by
 by_cases b:r=true->c.May=false
 ·have g:(r && c.May)=false:=by cases r;rfl;rw[b U];rfl
  cases d:c.Waits
  ·have e:C.step q.m c s r=C.order q.m c s:=by unfold C.step;rw[g,d];rfl
   rw[e];exact zlU R c hc w s f a r d b
  ·have e:C.step q.m c s r=⟨c,s,1⟩:=by unfold C.step;rw[g,d];rfl
   rw[e];exact zlV R c hc w s f d r b
 ·obtain⟨rfl,h⟩:r=true/\c.May=true:=by revert b;cases r <;> cases c.May <;> simp
  have e:C.step q.m c s true={ C.leave q.m ⟨c,s,0⟩ 2 with n:=6 }:=by unfold C.step;rw[h];rfl
  rw[e];exact zoY R c hc w s f a h
end
theorem Facts.of_blocks{w w':World}(h:Facts w)(e1:w'.heap[1]?=w.heap[1]?)(e2:w'.heap[0]?=w.heap[0]?)(e3:w'.heap[2]?=w.heap[2]?):Facts w':=by
 obtain⟨t,⟨m,a⟩,s⟩:=h;refine⟨?_,⟨m,(am (w:=w) e2).trans a⟩,rt s e3⟩;unfold Lib.TabIs World.var? at t ⊢;rw[zkT] at t ⊢;simp only[kO] at t ⊢;rw[e1];exact t
theorem at_new{W:World}{o:Obj}{b:Nat}(h:b=W.heap.size):(W.alloc o).heap[b]?=some o:=by subst h;exact aJ W o
theorem pS{W:World}{o x:Obj}{b:Nat}(h:W.heap[b]?=some x):(W.alloc o).heap[b]?=some x:=(bO _ _ (ay.1 h).1).trans h
def nD(w:World)(b:Nat)(v:Value):Prop:=∃ t,t≠104/\w.heap[b]?=some (.cells #[v] t (0,0))
theorem nD.lt{w:World}{b:Nat}{v:Value}(h:nD w b v):b<w.heap.size:=by obtain⟨t,_,e⟩:=h;exact(ay.1 e).1
theorem nD.cell{w:World}{b:Nat}{v:Value}(h:nD w b v):w.cell? ⟨b,0,none⟩=some v:=by obtain⟨t,_,e⟩:=h;exact Lib.cell_of_heap e 0
theorem nD.same{w w1:World}{b:Nat}{v:Value}(h:nD w b v)(e:w1.heap[b]?=w.heap[b]?):nD w1 b v:=by obtain⟨t,a,c⟩:=h;exact⟨t,a,e.trans c⟩
abbrev vQ:Value:=cZ 92 #[]
abbrev vR:Value:=cZ 93 #[]
abbrev nX(g n:Nat):List (Nat × Value):=[(n,pt g 0),(n+2,pt g 0),(n+3,vQ),(n+4,vR)]
abbrev oA(g n:Nat):List (Nat × Value):=[(n,pt g 0),(n+2,pt g 0)]
theorem zl3(g:Nat)(w:World):Calls prog 49 #[pt g 0] w λe w'=>e=.returned (memM (w.heap.size+2) (w.heap.size+3) (w.heap.size+4) w.heap.size)/\Below w.heap.size w w'/\w'.heap.size=w.heap.size+5 /\ ∀ y∈nX g w.heap.size,nD w' y.1 y.2:=by
 go_enter func49,ntmps49;go_wp2;refine ao (v:=.agg _) (by simp[results,results49,go_sem]) U ⟨U,stA (stA (stA (stA (stA (J _) _) _) _) _) _,by simp,?_⟩;intro y a;simp only[nX,aV,bJ,dG] at a;rcases a with rfl|rfl|rfl|rfl
 ·exact⟨_,by decide,pS (pS (pS (pS (at_new U))))⟩
 ·exact⟨_,by decide,pS (pS (at_new (by simp)))⟩
 ·exact⟨_,by decide,pS (at_new (by simp))⟩
 ·exact⟨_,by decide,at_new (by simp)⟩
theorem zpb(g:Nat)(w:World):Calls prog 74 #[pt g 0] w λe w'=>e=.returned (memA (w.heap.size+2) w.heap.size)/\Below w.heap.size w w'/\w'.heap.size=w.heap.size+3 /\ ∀ y∈oA g w.heap.size,nD w' y.1 y.2:=by
 go_enter func74,ntmps74;go_wp2;refine ao (v:=.agg _) (by simp[results,results74,go_sem]) U ⟨U,stA (stA (stA (J _) _) _) _,by simp,?_⟩;intro y a;simp only[oA,aV,bJ,dG] at a;rcases a with rfl|rfl
 ·exact⟨_,by decide,pS (pS (at_new U))⟩
 ·exact⟨_,by decide,at_new (by simp)⟩
structure GI (F : Gx) (N : Nat) (bx : List (Nat × Value)) (w : World) (s : Bst) : Prop where
 N:N<=w.heap.size
 fx:Facts w
 n:0<=s.n
 gd:∃ v,Gd F w s.M ⟨s.n,s.l,v⟩
 bx:∀ y∈bx,nD w y.1 y.2
structure GF (F : Gx) (N : Nat) (bx : List (Nat × Value)) : Prop where
 B:F.B<=N
 all:∀ k,F.all k->k<N
 fx:1<F.B/\0<F.B/\2<F.B
 bx:∀ y∈bx,y.1<N /\ ¬ F.T y.1
section
variable {F : Gx} {N : Nat} {bx : List (Nat × Value)} {w w1 : World} {s s' : Bst} {M : Mach} {tk : Tk}
theorem Gd.wty(h:Gd F w M tk):∀ k,tk.v.ownBlock=some k->∃ cs fr,w.heap[k]?=some (.cells cs 104 fr):=λk a=>by
 rcases h.ws.2 with⟨b,_⟩|⟨g,c,d,b,_,e,_⟩
 ·rw[b] at a;cases a
 ·rw[b] at a;cases a;exact⟨_,_,e⟩
theorem Gw.bxp(h:Gw F w w1){b:Nat}{v:Value}(c:nD w b v)(d:¬ F.T b):nD w1 b v:=by
 obtain⟨t,a,e⟩:=c;exact⟨t,a,h.box e d a⟩
theorem GI.keep(a:GF F N bx)(h:GI F N bx w s)(b:w.heap.size<=w1.heap.size)(e:∀ k,k<N \/ Wt' w k->w1.heap[k]?=w.heap[k]?):GI F N bx w1 s:=by
 obtain⟨v,c⟩:=h.gd;have hB:=a.B
 exact⟨ax h.N b,h.fx.of_blocks (e _ (Or.inl (by have:=a.fx.1;omega))) (e _ (Or.inl (by have:=a.fx.2.1;omega))) (e _ (Or.inl (by have:=a.fx.2.2;omega))),h.n,
  ⟨v,c.of_same b (λk _ f=>e k (Or.inl (a.all k f))) (λk g=>e k (Or.inr (c.wty k g)))⟩,λy d=>(h.bx y d).same (e _ (Or.inl (a.bx y d).1))⟩
theorem GI.moved(b:GF F N bx)(h:GI F N bx w s)(a:Gw F w w1)(d:∃ v,Gd F w1 s'.M ⟨s'.n,s'.l,v⟩)(e:0<=s'.n):GI F N bx w1 s' :=
 ⟨ax h.N (Mv.size a),h.fx.of_blocks (a.below.block _ b.fx.1) (a.below.block _ b.fx.2.1) (a.below.block _ b.fx.2.2),e,d,λy c=>a.bxp (h.bx y c) (b.bx y c).2⟩
theorem GI.pb(a:GF F N bx)(h:GI F N bx w s){b:Nat}(hb:(b,pt F.g 0)∈bx):Pb F w b:=⟨(h.bx _ hb).lt,(h.bx _ hb).cell,(a.bx _ hb).2⟩
abbrev mQ(F:Gx)(N n:Nat):Qe:=⟨bD,F,N,87,94,#[pt n 0,pt (n+2) 0],#[pt (n+2) 0,pt (n+3) 0,pt (n+4) 0,pt n 0],GI F N (nX F.g n)⟩
abbrev aQ(F:Gx)(N n:Nat):Qe:=⟨bY,F,N,148,150,#[pt (n+2) 0],#[pt (n+2) 0,pt n 0],GI F N (oA F.g n)⟩
theorem zwD(n:Nat)(c:GF F N (nX F.g n)):QS (mQ F N n) where
 B:=c.B
 T:=λk q=>c.all k (Or.inl q)
 big:=λh=>h.N
 keep:=λh r e=>h.keep c r e
 facts:=λh=>h.fx
 byte:=λs a=>by
  show 0<=(s.M.rdM a).1%256/\(s.M.rdM a).1%256<=255;omega
 frd:=λs a=>ak _
 fwr:=λs a b=>by
  have:=ziq a (b%256) (by omega);show (1000000000000-s.n).toNat/510<=(1000000000000-(s.n+ia a (b%256))).toNat/510+1;omega
 eg:=λ_ _=>U
 ep:=λ_ _=>U
 get:=λw s a o f h=>by
  obtain⟨v,m⟩:=h.gd;have hb:=zva m.fit a;have e1:(bD.rd s a).1=(s.M.rdM a).1:=by show (s.M.rdM a).1%256=_;omega
  show Calls prog 87 #[.int .u16 a,pt n 0,pt (n+2) 0] w _;rw[e1];refine(Gm.getM m (h.pb c (by simp)) (h.pb c (by simp)) a ⟨o,f⟩).mono ?_;rintro e w1 ⟨rfl,i,d⟩;exact⟨U,h.moved c d.w ⟨v,i⟩ h.n,d.w⟩
 put:=λw s a b o f hb j t h=>by
  obtain⟨v,m⟩:=h.gd;have e1:b%256=b:=by omega
  have u:1<=(1000000000000-s.n).toNat/510:=t;have p:0<=s.n/\s.n<=1000000000000:=⟨h.n,by omega⟩
  have x:=ziq a b ⟨hb,j⟩;have e2:bD.wr s a b=⟨s.M.wrM a b,s.n+ia a b,s.l⟩:=by show (⟨_,_,_⟩:Bst)=_;rw[e1]
  show Calls prog 94 #[.int .u16 a,.int .u8 b,pt (n+2) 0,pt (n+3) 0,pt (n+4) 0,pt n 0] w λe w'=>_/\GI F N (nX F.g n) w' (bD.wr s a b)/\_
  rw[e2];have h2:(n+3,vQ)∈nX F.g n:=by simp
  have h3:(n+4,vR)∈nX F.g n:=by simp
  refine(Gm.putM m ⟨h.pb c (by simp),h.pb c (by simp),⟨(h.bx _ h2).lt,(h.bx _ h2).cell,(c.bx _ h2).2⟩,⟨(h.bx _ h3).lt,(h.bx _ h3).cell,(c.bx _ h3).2⟩⟩ a b ⟨o,f⟩ ⟨hb,j⟩ p).mono ?_;rintro e w1 ⟨rfl,i,d⟩;exact⟨U,h.moved c d.w ⟨v,i⟩ (by show 0<=s.n+ia a b;omega),d.w⟩
theorem zyi(n:Nat)(d:GF F N (oA F.g n)):QS (aQ F N n) where
 B:=d.B
 T:=λk p=>d.all k (Or.inl p)
 big:=λh=>h.N
 keep:=λh q e=>h.keep d q e
 facts:=λh=>h.fx
 byte:=λs a=>by
  show 0<=(s.M.rdA a).1%256/\(s.M.rdA a).1%256<=255;omega
 frd:=λs a=>ak _
 fwr:=λs a b=>by
  have:=zir s.M a (b%256);show 1000000001-s.l.length<=1000000001-(s.l++s.M.shA a (b%256)).length+1;rw[aC];omega
 eg:=λ_ _=>U
 ep:=λ_ _=>U
 get:=λw s a m f h=>by
  obtain⟨v,j⟩:=h.gd;have hb:=zvb j.fit a;have e1:(bY.rd s a).1=(s.M.rdA a).1:=by show (s.M.rdA a).1%256=_;omega
  show Calls prog 148 #[.int .u16 a,pt (n+2) 0] w _;rw[e1];refine(Gm.getA j (h.pb d (by simp)) a ⟨m,f⟩).mono ?_;rintro e w1 ⟨rfl,i,c⟩;exact⟨U,h.moved d c.w ⟨v,i⟩ h.n,c.w⟩
 put:=λw s a b m f hb o r h=>by
  obtain⟨v,j⟩:=h.gd;have e1:b%256=b:=by omega
  have u:1<=1000000001-s.l.length:=r;have e2:bY.wr s a b=⟨s.M.wrA a b,s.n,s.l++s.M.shA a b⟩:=by show (⟨_,_,_⟩:Bst)=_;rw[e1]
  show Calls prog 150 #[.int .u16 a,.int .u8 b,pt (n+2) 0,pt n 0] w λe w'=>_/\GI F N (oA F.g n) w' (bY.wr s a b)/\_
  rw[e2];have ne:∀ b,(b,pt F.g 0)∈oA F.g n->v.ownBlock≠some b:=λb hb e=>by
   obtain⟨t,x,y⟩:=h.bx _ hb;exact jN j.ws y (br x) e
  refine(Gm.putA j (h.pb d (by simp)) (h.pb d (by simp)) (ne _ (by simp)) (ne _ (by simp)) a b ⟨m,f⟩ ⟨hb,o⟩ (by show s.l.length<=1000000000;omega)).mono ?_;rintro e w1 ⟨rfl,i,c,_⟩;exact⟨U,h.moved d c i h.n,c⟩
end
noncomputable def eH : Code := Tryz.f41.body.getD .skip
theorem vk(a:Act)(b:a.tmps.size=238)(c:a.defers=[]):∃ f:Nat->Value,(∀ i,qs a i=f i)/\a={ tmps:=#[f 0,f 1,f 2,f 3,f 4,f 5,f 6,f 7,f 8,f 9,f 10,f 11,f 12,f 13,f 14,f 15,f 16,f 17,f 18,f 19,f 20,f 21,f 22,f 23,f 24,f 25,f 26,f 27,f 28,f 29,f 30,f 31,f 32,f 33,f 34,f 35,f 36,f 37,f 38,f 39,f 40,f 41,f 42,f 43,f 44,f 45,f 46,f 47,f 48,f 49,f 50,f 51,f 52,f 53,f 54,f 55,f 56,f 57,f 58,f 59,f 60,f 61,f 62,f 63,f 64,f 65,f 66,f 67,f 68,f 69,f 70,f 71,f 72,f 73,f 74,f 75,f 76,f 77,f 78,f 79,f 80,f 81,f 82,f 83,f 84,f 85,f 86,f 87,f 88,f 89,f 90,f 91,f 92,f 93,f 94,f 95,f 96,f 97,f 98,f 99,f 100,f 101,f 102,f 103,f 104,f 105,f 106,f 107,f 108,f 109,f 110,f 111,f 112,f 113,f 114,f 115,f 116,f 117,f 118,f 119,f 120,f 121,f 122,f 123,f 124,f 125,f 126,f 127,f 128,f 129,f 130,f 131,f 132,f 133,f 134,f 135,f 136,f 137,f 138,f 139,f 140,f 141,f 142,f 143,f 144,f 145,f 146,f 147,f 148,f 149,f 150,f 151,f 152,f 153,f 154,f 155,f 156,f 157,f 158,f 159,f 160,f 161,f 162,f 163,f 164,f 165,f 166,f 167,f 168,f 169,f 170,f 171,f 172,f 173,f 174,f 175,f 176,f 177,f 178,f 179,f 180,f 181,f 182,f 183,f 184,f 185,f 186,f 187,f 188,f 189,f 190,f 191,f 192,f 193,f 194,f 195,f 196,f 197,f 198,f 199,f 200,f 201,f 202,f 203,f 204,f 205,f 206,f 207,f 208,f 209,f 210,f 211,f 212,f 213,f 214,f 215,f 216,f 217,f 218,f 219,f 220,f 221,f 222,f 223,f 224,f 225,f 226,f 227,f 228,f 229,f 230,f 231,f 232,f 233,f 234,f 235,f 236,f 237],defers:=[] }:=by
 refine⟨qs a,λ_=>U,?_⟩;obtain⟨t,d⟩:=a;simp only at b c;subst c;have e:t=((List.range 238).map (λi=>t.getD i undef)).toArray:=by
  apply Array.ext
  ·simp[b]
  ·intro i h1 h2
   simp[Array.getD,h1]
 exact congrArg (λt=>({ tmps:=t,defers:=[] }:Act)) (e.trans (by rfl))
structure Ck (a : Act) (g : Nat) (v : Value) (ob : Nat) : Prop where
 sz:a.tmps.size=238
 df:a.defers=[]
 s0:qs a 0=pt g 0
 s1:qs a 1=v
 s2:qs a 2=pt ob 0
 s6:qs a 6=pt g 0
structure GC (F : Gx) (N ob : Nat) (vl vs : Value) (w : World) (s : Bst) (ln : List Lin) (sm : List UInt8) : Prop where
 n:0<=s.n
 fx:Facts w
 gd:∃ v,Gd F w s.M ⟨s.n,s.l,v⟩
 ob:w.heap[ob]?=some (.cells #[vl,vs,.slice none 0 0] 47 (0,0))
 ln:w.ownsRow N 68 18 vl ln.length (jM ln)
 sm:w.ownsRow N 5 1 vs sm.length (dW sm)
structure GK (F : Gx) (N ob : Nat) : Prop where
 B:F.B<=N
 all:∀ k,F.all k->k<N
 fx:1<F.B/\0<F.B/\2<F.B
 ob:N<=ob
section
variable {F : Gx} {N ob : Nat} {vl vs : Value} {w w1 : World} {s s' : Bst} {ln : List Lin} {sm : List UInt8} {M : Mach}
theorem GK.nT(a:GK F N ob){k:Nat}(b:N<=k):¬ F.T k:=λh=>by have:=a.all k (Or.inl h);omega
theorem Gw.eq(h:Gw F w w1){b:Nat}{cs:Array Value}{t:TypeId}{fr:Nat × Nat}(e:w.heap[b]?=some (.cells cs t fr))(a:¬ F.T b)(c:t≠104):w1.heap[b]?=w.heap[b]?:=(h.box e a c).trans e.symm
theorem GC.lt(h:GC F N ob vl vs w s ln sm):ob<w.heap.size:=(ay.1 h.ob).1
theorem GC.big(h:GC F N ob vl vs w s ln sm):F.B<=w.heap.size:=by obtain⟨v,a⟩:=h.gd;exact a.big
theorem GC.kept(h:GC F N ob vl vs w s ln sm)(hb:Below w.heap.size w w1):GC F N ob vl vs w1 s ln sm:=by
 obtain⟨v,a⟩:=h.gd;exact⟨h.n,h.fx.kept hb,⟨v,a.kept hb⟩,(hb.block _ h.lt).trans h.ob,fF h.ln (λj e=>hb.block j (fZ h.ln j e).2.1),fF h.sm (λj e=>hb.block j (fZ h.sm j e).2.1)⟩
theorem GC.gw(a:GK F N ob)(h:GC F N ob vl vs w s ln sm)(b:Gw F w w1)(c:∃ v,Gd F w1 s'.M ⟨s'.n,s'.l,v⟩)(d:0<=s'.n):GC F N ob vl vs w1 s' ln sm :=
 ⟨d,h.fx.of_blocks (b.below.block _ a.fx.1) (b.below.block _ a.fx.2.1) (b.below.block _ a.fx.2.2),c,b.box h.ob (a.nT a.ob) (by decide),
   fF h.ln (λj e=>by obtain⟨h1,h2,cs,h3⟩:=fZ h.ln j e;exact b.eq h3 (a.nT h1) (by decide)),fF h.sm (λj e=>by obtain⟨h1,h2,cs,h3⟩:=fZ h.sm j e;exact b.eq h3 (a.nT h1) (by decide))⟩
theorem GC.puts(c:GK F N ob)(h:GC F N ob vl vs w s ln sm){M':Mach}(i:Nat)(L:List Value)(hi:i+L.length<=77)(hc:∀ tk,gN (F.cells s.M tk) i L=F.cells M' tk)(d:M'.mrom=s.M.mrom/\M'.arom=s.M.arom/\M'.ram=s.M.ram/\M'.own=s.M.own/\M'.video=s.M.video)(e:M'.fit):GC F N ob vl vs (w.setCells F.g i L) ⟨M',s.n,s.l⟩ ln sm/\Below F.B w (w.setCells F.g i L):=by
 obtain⟨v,a⟩:=h.gd;have b:=(Gt.sets a.nd L i w (Gt.refl F w)).w;exact⟨h.gw c b ⟨v,a.puts (M':=M') (tk':=⟨s.n,s.l,v⟩) i L hi (hc _) d e⟩ h.n,b.below⟩
theorem GC.at(h:GC F N ob vl vs w s ln sm)(i:Nat)(u:Value)(hi:i<75)(e:(D s.M F.S)[i]?=some u):w.cell? ⟨F.g,i,none⟩=some u:=by
 obtain⟨v,a⟩:=h.gd;refine a.at i u ?_;unfold Gx.cells;rw[aR (by rw[cy];exact hi)];exact e
theorem GC.gz(h:GC F N ob vl vs w s ln sm):F.g<w.heap.size /\ ∀ i,w.frozen? ⟨F.g,i,none⟩=false:=by
 obtain⟨v,a⟩:=h.gd;exact⟨a.bx.z,λi=>a.bx.f i⟩
theorem GC.fit(h:GC F N ob vl vs w s ln sm):s.M.fit:=by
 obtain⟨v,a⟩:=h.gd;exact a.fit
theorem GC.sndR(h:GC F N ob vl vs w s ln sm):w.rangeAt F.g 45 (dA s.M.s):=by
 obtain⟨v,a⟩:=h.gd;exact a.sndR
theorem GC.th(h:GC F N ob vl vs w s ln sm)(i n:Nat)(hi:i+n<=77):w.there F.g i n:=by
 obtain⟨v,a⟩:=h.gd;exact a.bx.there i n (by rw[Gx.len];exact hi)
structure Kpt (N ob : Nat) (w : World) (k : Nat) : Prop where
 n:N<=k
 t:∃ cs t fr,w.heap[k]?=some (.cells cs t fr)/\t≠104/\t≠25/\t≠47
 l:∀ u,w.cell? ⟨ob,0,none⟩=some u->u.ownBlock≠some k
 s:∀ u,w.cell? ⟨ob,1,none⟩=some u->u.ownBlock≠some k
structure GV (F : Gx) (N ob : Nat) (vl vs : Value) (w : World) (s : Bst) (ln : List Lin) (sm : List UInt8) (W : World) : Prop where
 c:GC F N ob vl vs W s ln sm
 b:Below F.B w W
 q:∀ k,Kpt N ob w k->W.heap[k]?=w.heap[k]? /\ vl.ownBlock≠some k/\vs.ownBlock≠some k
variable {W W1 : World}
theorem Kpt.far(h:GV F N ob vl vs w s ln sm W){vl' vs':Value}(b:∀ k cs t fr,N<=k->W.heap[k]?=some (.cells cs t fr)->t≠104->t≠25->t≠47->vl.ownBlock≠some k->vs.ownBlock≠some k->W1.heap[k]?=W.heap[k]? /\ vl'.ownBlock≠some k/\vs'.ownBlock≠some k):∀ k,Kpt N ob w k->W1.heap[k]?=w.heap[k]? /\ vl'.ownBlock≠some k/\vs'.ownBlock≠some k:=λk a=>by
 obtain⟨e,e1,e2⟩:=h.q k a;obtain⟨cs,t,fr,e3,c,t2,t3⟩:=a.t;obtain⟨g0,g1,d⟩:=b k cs t fr a.n (e.trans e3) c t2 t3 e1 e2;exact⟨g0.trans e,g1,d⟩
theorem GV.gwq(a:GK F N ob)(h:GV F N ob vl vs w s ln sm W)(b:Gw F W W1):∀ k,Kpt N ob w k->W1.heap[k]?=w.heap[k]? /\ vl.ownBlock≠some k/\vs.ownBlock≠some k :=
 Kpt.far h (λk cs t fr c e d _ _ o1 o2=>⟨b.eq e (a.nT c) d,o1,o2⟩)
theorem GV.start(h:GC F N ob vl vs w s ln sm):GV F N ob vl vs w s ln sm w :=
 ⟨h,(aW F.B w),λk a=>⟨U,a.l _ (Lib.cell_of_heap h.ob 0),a.s _ (Lib.cell_of_heap h.ob 1)⟩⟩
theorem GV.kept(h:GV F N ob vl vs w s ln sm W)(hb:Below W.heap.size W W1):GV F N ob vl vs w s ln sm W1:=⟨h.c.kept hb,h.b.trans (hb.mono h.c.big),
 Kpt.far h (λk cs t fr _ e _ _ _ o1 o2=>⟨hb.block k (ay.1 e).1,o1,o2⟩)⟩
theorem GV.puts(a:GK F N ob)(h:GV F N ob vl vs w s ln sm W){M':Mach}(i:Nat)(L:List Value)(hi:i+L.length<=77)(hc:∀ tk,gN (F.cells s.M tk) i L=F.cells M' tk)(d:M'.mrom=s.M.mrom/\M'.arom=s.M.arom/\M'.ram=s.M.ram/\M'.own=s.M.own/\M'.video=s.M.video)(e:M'.fit):GV F N ob vl vs w ⟨M',s.n,s.l⟩ ln sm (W.setCells F.g i L):=⟨(h.c.puts a i L hi hc d e).1,h.b.trans (h.c.puts a i L hi hc d e).2,by
 obtain⟨v,f⟩:=h.c.gd;exact h.gwq a (Gt.sets f.nd L i W (Gt.refl F W)).w⟩
def KP(F:Gx)(N ob:Nat)(w:World)(s:Bst)(ln:List Lin)(sm:List UInt8)(e:Ending)(w':World):Prop:=e=.returned (.tuple #[]) /\ ∃ vl vs,GV F N ob vl vs w s ln sm w'
end
section
variable {P : Program} {md : Region.Mode} {ops : Array Oper} {aj : Exit -> Act -> World -> Prop} {S : World -> Prop} {st : Nat}
theorem zdj{fuel:Nat}{b:Array Bool}{a:Act}{w:World}{i j:Nat}{oi oj:Oper}(h:Region.ready md ops b=[i,j])(hi:ops[i]?=some oi)(m:ops[j]?=some oj)
 (h1:∀ c:Act->World->Prop,Shut (∀ a w,((b.setIfInBounds i true).getD st true=false->S w)->dg P md ops aj S st fuel (b.setIfInBounds i true) a w->c a w)->if Region.wanted oi (yielded ops a.tmps)=true then Oper.wp P oi a w c aj else c (a.put oi.dst undef) w)
 (h2:∀ c:Act->World->Prop,Shut (∀ a w,((b.setIfInBounds j true).getD st true=false->S w)->dg P md ops aj S st fuel (b.setIfInBounds j true) a w->c a w)->if Region.wanted oj (yielded ops a.tmps)=true then Oper.wp P oj a w c aj else c (a.put oj.dst undef) w) :
 dg P md ops aj S st (fuel+1) b a w :=
 And.intro (λl=>(by rw[h] at l;cases l)) (λk d=>(by
  rw[h] at d;rcases aV.1 d with rfl|d
  ·exact l9 hi (λc e=>h1 c (λa w f g=>e a w ⟨f,g⟩))
  ·rcases aV.1 d with rfl|d
   ·exact l9 m (λc e=>h2 c (λa w f g=>e a w ⟨f,g⟩))
   ·cases d))
end
section
variable {F : Gx} {N ob : Nat} {vl vs v : Value} {w W W1 : World} {s : Bst} {ln : List Lin} {sm : List UInt8} {bx : List (Nat × Value)}
theorem GV.mainR(h:GV F N ob vl vs w s ln sm W):W.rangeAt F.g 0 (bG s.M.main):=by
 obtain⟨v,a⟩:=h.c.gd;exact a.bx.mid 0 15
theorem GV.auxR(h:GV F N ob vl vs w s ln sm W):W.rangeAt F.g 15 (bG s.M.aux):=by
 obtain⟨v,a⟩:=h.c.gd;exact a.bx.mid 15 15
theorem GV.delay(e:GK F N ob)(h:GV F N ob vl vs w s ln sm W):GV F N ob vl vs w ⟨s.M,0,s.l⟩ ln sm (W.setCell ⟨F.g,76,none⟩ (.int .i64 0)):=by
 obtain⟨v,a⟩:=h.c.gd;have d:=(Gt.sets a.nd [.int .i64 0] 76 W (Gt.refl F W)).w;exact⟨h.c.gw e d ⟨v,a.put (M':=s.M) (tk':=⟨0,s.l,v⟩) 76 _ (by omega) U ⟨U,U,U,U,U⟩ a.fit⟩ (iO 0),h.b.trans d.below,h.gwq e d⟩
theorem GV.took(h:GV F N ob vl vs w s ln sm W):W.cell? ⟨F.g,76,none⟩=some (.int .i64 s.n):=by
 obtain⟨v,a⟩:=h.c.gd;exact a.at 76 _ U
theorem GV.nz(h:GV F N ob vl vs w s ln sm W)(a:GK F N ob):N<=W.heap.size:=ga (eB a.ob h.c.lt)
theorem GV.ssM(h:GV F N ob vl vs w s ln sm W){a bg:Bool}(e1:s.M.t.g=a)(e2:s.M.b.g=bg):W.rangeAt F.g 0 (bG s.M.main)/\W.cell? ⟨F.g,44,none⟩=some (.bool a)/\W.cell? ⟨F.g,63,none⟩=some (.bool bg):=by
 subst e1 e2;exact⟨h.mainR,h.c.at 44 _ (by decide) U,h.c.at 63 _ (by decide) U⟩
theorem GV.ssA(h:GV F N ob vl vs w s ln sm W){a:Bool}(e1:s.M.rung=a):W.rangeAt F.g 15 (bG s.M.aux)/\W.cell? ⟨F.g,71,none⟩=some (.bool a):=by
 subst e1;exact⟨h.auxR,h.c.at 71 _ (by decide) U⟩
theorem GV.own(f:GK F N ob)(h:GV F N ob vl vs w s ln sm W){p:Nat}(hp:N<=p){cs:Array Value}(e:W.heap[p]?=some (.cells cs 25 (0,0)))(i:Nat)(u:Value):GV F N ob vl vs w s ln sm (W.setCell ⟨p,i,none⟩ u):=by
 have r:=h;obtain⟨t,x,⟨v,m⟩,n,o,q⟩:=h.c;have far:∀ k,k≠p->(W.setCell ⟨p,i,none⟩ u).heap[k]?=W.heap[k]?:=λk g=>bL _ _ _ _ g
 have ty:∀ k d l fr,W.heap[k]?=some (.cells d l fr)->l≠25->k≠p:=λk d l fr a y g=>by
  subst g;rw[e] at a;simp only[aP,cP] at a;exact y a.2.1.symm
 have hB:=f.B;have low:Below F.B W (W.setCell ⟨p,i,none⟩ u):=Pl.below (ax hB hp) [u] i W ((J W).mono m.big);refine⟨⟨t,x.of_blocks (low.block _ f.fx.1) (low.block _ f.fx.2.1) (low.block _ f.fx.2.2),⟨v,m.of_same (by simp) (λk _ z=>far k (by have:=f.all k z;omega)) (λk g=>?_)⟩,(far ob (ty _ _ _ _ n (by decide))).trans n,fF o (λj a=>?_),fF q (λj a=>?_)⟩,h.b.trans low,Kpt.far r (λk d l fr _ a _ t2 _ o1 o2=>⟨far k (ty _ _ _ _ a t2),o1,o2⟩)⟩
 ·obtain⟨d,fr,a⟩:=m.wty k g
  exact far k (ty _ _ _ _ a (by decide))
 ·obtain⟨_,_,d,a⟩:=fZ o j a
  exact far j (ty _ _ _ _ a (by decide))
 ·obtain⟨_,_,d,a⟩:=fZ q j a
  exact far j (ty _ _ _ _ a (by decide))
theorem GV.owns(a:GK F N ob){p:Nat}(hp:N<=p):∀(L:List Value) (i:Nat) (W:World) (cs:Array Value),GV F N ob vl vs w s ln sm W->W.heap[p]?=some (.cells cs 25 (0,0))->GV F N ob vl vs w s ln sm (W.setCells p i L)
 | [],_,_,_,h,_=>h
 | u::L,i,W,cs,h,e=>GV.owns a hp L (i+1) _ _ (h.own a hp e i u) (py e u)
structure KQ (F : Gx) (N ob : Nat) (vl vs : Value) (w : World) (s : Bst) (ln : List Lin) (sm : List UInt8) (bx : List (Nat × Value)) (W : World) : Prop where
 c:GV F N ob vl vs w s ln sm W
 bx:∀ y∈bx,N<=y.1/\nD W y.1 y.2
theorem KQ.kept(h:KQ F N ob vl vs w s ln sm bx W)(hb:Below W.heap.size W W1):KQ F N ob vl vs w s ln sm bx W1:=⟨h.c.kept hb,λy a=>⟨(h.bx y a).1,(h.bx y a).2.same (hb.block _ (h.bx y a).2.lt)⟩⟩
theorem KQ.gi(h:KQ F N ob vl vs w s ln sm bx W):GI F W.heap.size bx W s:=⟨ak _,h.c.c.fx,h.c.c.n,h.c.c.gd,λy a=>(h.bx y a).2⟩
theorem KQ.gf(a:GK F N ob)(h:KQ F N ob vl vs w s ln sm bx W):GF F W.heap.size bx :=
 ⟨h.c.c.big,λk d=>by have:=a.all k d;have:=a.ob;have:=h.c.c.lt;omega,a.fx,λy b=>⟨(h.bx y b).2.lt,a.nT (h.bx y b).1⟩⟩
theorem KQ.ofM{a:Nat}(d:N<=a)(h:GV F N ob vl vs w s ln sm W)(c:∀ y∈nX F.g a,nD W y.1 y.2):KQ F N ob vl vs w s ln sm (nX F.g a) W:=⟨h,λy b=>⟨by
 simp only[nX,aV,bJ,dG] at b;rcases b with rfl|rfl|rfl|rfl <;> simp only <;> omega,c y b⟩⟩
theorem KQ.ofA{a:Nat}(d:N<=a)(h:GV F N ob vl vs w s ln sm W)(c:∀ y∈oA F.g a,nD W y.1 y.2):KQ F N ob vl vs w s ln sm (oA F.g a) W:=⟨h,λy b=>⟨by
 simp only[oA,aV,bJ,dG] at b;rcases b with rfl|rfl <;> simp only <;> omega,c y b⟩⟩
theorem zvh(g:Nat)(W:World)(a:Nat)(b:a=W.heap.size):Calls prog 49 #[pt g 0] W λe w'=>e=.returned (memM (a+2) (a+3) (a+4) a)/\Below W.heap.size W w' /\ ∀ y∈nX g a,nD w' y.1 y.2:=by
 subst b;exact(zl3 g W).mono (λe w' h=>⟨h.1,h.2.1,h.2.2.2⟩)
theorem zvi(g:Nat)(W:World)(a:Nat)(b:a=W.heap.size):Calls prog 74 #[pt g 0] W λe w'=>e=.returned (memA (a+2) a)/\Below W.heap.size W w' /\ ∀ y∈oA g a,nD w' y.1 y.2:=by
 subst b;exact(zpb g W).mono (λe w' h=>⟨h.1,h.2.1,h.2.2.2⟩)
theorem sV{p:Nat}{L:List Value}{t:TypeId}(e:W.heap[p]?=some (.cells L.toArray t (0,0)))(b:L.length=15):W.there p 0 15 :=
 Bx.there (⟨(ay.1 e).1,λj v a=>(Lib.cell_of_heap e (0+j)).trans (by rw[aN,bw];exact a),λo=>Lib.frozen_of_heap e o⟩:Bx W p L) 0 15 (by omega)
abbrev zL:List Value:=[.int .u16 0,.int .u16 0,.int .u16 0,.int .u16 0,.int .u16 0,.int .u16 0,.int .u16 0,.int .u16 0,.int .u16 0,.bool false,.bool false,.bool false,.bool false,.bool false,.bool false]
structure KY (F : Gx) (N ob : Nat) (vl vs : Value) (w : World) (s : Bst) (ln : List Lin) (sm : List UInt8) (W W1 : World) : Prop where
 c:GV F N ob vl vs w s ln sm W1
 z:W.heap.size<=W1.heap.size
 p:∀(b:Nat) (cs:Array Value),N<=b->W.heap[b]?=some (.cells cs 25 (0,0))->W1.heap[b]?=some (.cells cs 25 (0,0))
theorem zwJ(f:GK F N ob){a:Nat}(h:KQ F N ob vl vs w s ln sm (nX F.g a) W)(i:4<=bD.fuel s)(r:Bool):Calls prog 73 #[.agg (bG s.M.main).toArray,memM (a+2) (a+3) (a+4) a,.bool r] W λe w'=>e=.returned (.tuple #[.agg (bG (C.step bD s.M.main s r).c).toArray,.int .i64 (C.step bD s.M.main s r).n])/\KY F N ob vl vs w (C.step bD s.M.main s r).s ln sm W w'/\(C.step bD s.M.main s r).c.ok/\(0<=(C.step bD s.M.main s r).n/\(C.step bD s.M.main s r).n<=21)/\bD.fuel s<=bD.fuel (C.step bD s.M.main s r).s+4:=by
 have R:=zwD a (h.gf f);refine(zjV R s.M.main h.c.c.fit.main W s h.gi i r).mono ?_;rintro e w' ⟨rfl,k,d,j⟩;exact⟨U,⟨⟨h.c.c.gw f d k.gd k.n,h.c.b.trans d.below,h.c.gwq f d⟩,Mv.size d,λb cs hb e=>d.box e (f.nT hb) (by decide)⟩,j,C.step_n _ _ _ (lZ _ (R.word s _)).1,C.fuel_step R.frd R.fwr _ _ _⟩
theorem zwK(d:GK F N ob){f:Nat}(h:KQ F N ob vl vs w s ln sm (oA F.g f) W)(i:4<=bY.fuel s)(r:Bool):Calls prog 73 #[.agg (bG s.M.aux).toArray,memA (f+2) f,.bool r] W λe w'=>e=.returned (.tuple #[.agg (bG (C.step bY s.M.aux s r).c).toArray,.int .i64 (C.step bY s.M.aux s r).n])/\KY F N ob vl vs w (C.step bY s.M.aux s r).s ln sm W w'/\(C.step bY s.M.aux s r).c.ok/\(0<=(C.step bY s.M.aux s r).n/\(C.step bY s.M.aux s r).n<=21)/\bY.fuel s<=bY.fuel (C.step bY s.M.aux s r).s+4:=by
 have R:=zyi f (h.gf d);refine(zjV R s.M.aux h.c.c.fit.aux W s h.gi i r).mono ?_;rintro e w' ⟨rfl,k,a,j⟩;exact⟨U,⟨⟨h.c.c.gw d a k.gd k.n,h.c.b.trans a.below,h.c.gwq d a⟩,Mv.size a,λb cs hb e=>a.box e (d.nT hb) (by decide)⟩,j,C.step_n _ _ _ (lZ _ (R.word s _)).1,C.fuel_step R.frd R.fwr _ _ _⟩
structure KR (F : Gx) (N ob : Nat) (vl vs : Value) (w : World) (s : Bst) (ln : List Lin) (sm : List UInt8) (cc : C.Cpu) (p : Nat) (W : World) : Prop where
 c:GV F N ob vl vs w s ln sm W
 n:N<=p
 p:Bx W p (bG cc)
theorem KR.of(b:GK F N ob)(c:C.Cpu){p:Nat}{L:List Value}(a:L.length=15)(h:GV F N ob vl vs w s ln sm W)(hp:N<=p)(e:W.heap[p]?=some (.cells L.toArray 25 (0,0))):KR F N ob vl vs w s ln sm c p (W.setCells p 0 (bG c)):=by
 refine⟨GV.owns b hp _ _ _ _ h e,hp,?_⟩;have d:Bx W p L:=⟨(ay.1 e).1,λj v f=>(Lib.cell_of_heap e (0+j)).trans (by rw[aN,bw];exact f),λo=>Lib.frozen_of_heap e o⟩
 have:=d.puts 0 (bG c) (by rw[a];show 0+15<=15;omega);rw[jJ _ _ (by rw[a];rfl)] at this;exact this
end
theorem zyn(x:Int)(w:World):(Instr.buildSlice 26 1 #[(0,.int .u8 x)]).run prog w=.ok (.slice (some ⟨w.heap.size,0,none⟩) 1 1) (w.alloc (.cells #[.int .u8 x] 5)):=by kernel_rfl
theorem zwN:(Tryz.prog.info? 5).map (λi=>(i.zero,i.size,i.bytes))=some (some (.int .u8 0),1,1):=by kernel_rfl
section
variable {F : Gx} {N ob : Nat} {vl vs v : Value} {w W W1 W3 : World} {s : Bst} {ln : List Lin} {sm : List UInt8} {M : Mach} {n : Int} {l : List Wt}
theorem GV.grown{t:TypeId}{z m:Nat}{q:Value}{xs:List Value}{vl' vs':Value}{ln':List Lin}{sm':List UInt8}(l:GK F N ob)(h:GV F N ob vl vs w s ln sm W)(y:q=vl \/ q=vs)(p:∀ k,vl'.ownBlock=some k \/ vs'.ownBlock=some k->vl.ownBlock=some k \/ vs.ownBlock=some k \/ W.heap.size<=k)(r:W.ownsRow N t z q m xs)(I:t≠104/\t≠47)(o:W.grownBy W3 q.ownBlock)(i:Nat)(v':Value)
 (hc:(#[vl,vs,.slice none 0 0]:Array Value).setIfInBounds i v'=#[vl',vs',.slice none 0 0]) (L:W3.ownsRow N 68 18 vl' ln'.length (jM ln')) (M:W3.ownsRow N 5 1 vs' sm'.length (dW sm')):GV F N ob vl' vs' w s ln' sm' (W3.setCell ⟨ob,i,none⟩ v'):=by
 obtain⟨P,R,⟨v,u⟩,d,_,_⟩:=h.c;have T:=o.size;have E:=h.c.lt;have hB:=l.B;have n:W3.heap[ob]?=W.heap[ob]?:=o.block ob E (λe=>jN r d I.2 e.symm);have hb:Below F.B W W3:=(aW F.B W).grown o u.big (λj e=>ax hB (fZ r j e).1);have f:Below F.B W (W3.setCell ⟨ob,i,none⟩ v'):=hb.setCell (ax hB l.ob) _;have V:=u.big;have far:∀ k,k≠ob->(W3.setCell ⟨ob,i,none⟩ v').heap[k]?=W3.heap[k]?:=λk H=>dy H
 refine⟨⟨P,R.of_blocks (f.block _ l.fx.1) (f.block _ l.fx.2.1) (f.block _ l.fx.2.2),⟨v,u.of_same (ax T (bA (by simp))) (λk g X=>?_) (λk H=>?_)⟩,?_,fF L (λj e=>far j (λa=>?_)),fF M (λj e=>far j (λa=>?_))⟩,h.b.trans f,Kpt.far h (λk cs Z fr P e t1 t2 t3 o1 o2=>?_)⟩
 ·have Y:=l.all k X
  have:=l.ob;exact(far k (by omega)).trans (o.block k (by omega) (λe=>by have:=(fZ r k e.symm).1;omega))
 ·obtain⟨cs,fr,e⟩:=u.wty k H
  have g:=(ay.1 e).1;refine(far k (λa=>?_)).trans (o.block k g (λa=>jN r e I.1 a.symm));subst a;rw[d] at e;simp only[aP,cP] at e;exact absurd e.2.1 (by decide)
 ·rw[py (n.trans d),hc]
 ·subst a;exact jN L (n.trans d) (by decide) e
 ·subst a;exact jN M (n.trans d) (by decide) e
 ·have g:=(ay.1 e).1
  refine⟨(far k (λa=>?_)).trans (o.block k g (λa=>?_)),λa=>?_,λa=>?_⟩
  ·subst a
   rw[d] at e;simp only[aP,cP] at e;exact t3 e.2.1.symm
  ·rcases y with rfl|rfl
   ·exact o1 a.symm
   ·exact o2 a.symm
  ·rcases p k (Or.inl a) with x|x|x
   ·exact o1 x
   ·exact o2 x
   ·omega
  ·rcases p k (Or.inr a) with x|x|x
   ·exact o1 x
   ·exact o2 x
   ·omega
theorem GV.ss3(h:GV F N ob vl vs w s ln sm W):W.cell? ⟨ob,1,none⟩=some vs/\W.rangeAt F.g 45 (dA s.M.s):=⟨Lib.cell_of_heap h.c.ob 1,h.c.sndR⟩
theorem zut(d:GK F N ob)(z:Code)(P:Ending->World->Prop)(a:Act)(hC:Ck a F.g v ob)(h:GV F N ob vl vs w s ln sm W)(hl:sm.length<=100000)
 (hz:∀(a':Act) (W':World) (vs':Value),Ck a' F.g v ob->GV F N ob vl vs' w s ln (sm++s.M.sample) W'->Code.wp prog z (bodyPost prog Tryz.f41 P) a' W'):Code.wp prog (.seq (dN 0 (jc 3 eH)) z) (bodyPost prog Tryz.f41 P) a W:=by
 obtain⟨sz,df,s0,s1,s2,s6⟩:=hC;obtain⟨f,hf,rfl⟩:=vk a sz df;rw[hf] at s0 s1 s2 s6;clear hf sz df;rw[s0,s1,s2,s6];clear s0 s1 s2 s6;obtain⟨M,n,l⟩:=s;have E:=h.c.at 60 (.int .i64 M.s.w) (by decide) U;obtain⟨mz,mf⟩:=h.c.gz;have HK:=hid d;have H:=hid h;have Z:=hid hz;have HL:=hid hl;have HOK:=hid h.c.fit.s;clear d h hz hl;conv=>arg 2;arg 1;dsimp only[jc,dN,eH,Tryz.f41,Option.getD]
 by_cases B:M.s.w=0
 ·have X:M.sample=[Go.Proofs.YthghjlinhokimaaGreatDoor.sm M.s]:=by
   unfold Mach.sample;rw[Q B];show []++one M.s=_;unfold one;rw[Q B];rfl
  have HE:=hid X;rw[B] at E;clear B X;go_upto_region 10 with fail
  refine Pl.cutW (GV F N ob vl vs w ⟨M,n,l⟩ ln sm) H.out ?_;intro Y hY;have HX:=hid (hY.kept (J Y).drew);have p:=HX.out.ss3;clear hY E mz mf H;refine mI (S:=λw'=>w'.cell? ⟨ob,1,none⟩=some vs/\w'.rangeAt F.g 45 (dA M.s)) (st:=11) (by kernel_rfl) ?_;refine bI 0 (λ_=>p) ?_;refine bI 1 (λ_=>p) ?_;refine bI 2 (λ_=>p) ?_;refine bI 3 (λ_=>p) ?_;refine bI 5 (λ_=>p) ?_;refine bI 6 (λ_=>p) ?_;refine bI 7 (λ_=>p) ?_;refine mJ [11] (i:=4) (oi:=⟨some 100,_,_,_,_,none⟩) (v:=vs) U (Or.inl ⟨by rfl,?_⟩) p ?_
  ·intro w' t
   have hcc:=t.1;have hcz:=aG w' _ hcc;go_simp;try (with_reducible rfl)
  simp only[Act.put,xA,xB,xC];refine mJ [11,9] (i:=8) (oi:=⟨some 104,_,_,_,_,none⟩) (v:=.agg (dA M.s).toArray) U (Or.inl ⟨by rfl,λw' t=>kt 36 _ U F.g 45 U (dA M.s) _ t.2 underlying36 U kJ⟩) p ?_;simp only[Act.put,xA,xB,xC];refine fP 9 (λK d=>?_);go_simp;go_at_call 72
  refine(zlP M.s _ HOK.out).mono ?_;rintro e w1 ⟨rfl,I⟩;have u:=hid (HX.out.kept I);clear I;try go_wp2_with fail
  refine gL d (λ_=>u.out.ss3) ?_;clear d K;refine fP 10 (λK d=>?_);refine sS U 26 1 0 _ U (.int .u8 (lu M.s)) U (zyn (lu M.s) _) ?_;have b:=hid (u.out.kept (stA (J w1) (.cells #[.int .u8 (lu M.s)] 5)));refine gL d (λ_=>b.out.ss3) ?_;clear d K;refine fP 11 (λK d=>?_);obtain⟨i1,hj0,hy0,hy1,hy2⟩:=info_parts zwN;refine step_append_lies _ (by rfl) (.tmp 100) (.tmp 106) 26 (by rfl) N 5 i1 _ 1 1 underlying26 hj0 hy0 hy1 hy2 U (by omega) vs sm.length (dW sm) U b.out.c.sm ⟨w1.heap.size,0,none⟩ 1 1 [.int .u8 (lu M.s)] U U (sT [.int .u8 (lu M.s)] w1) (by simp[Value.oneCell']) (by omega) (by unfold maxLen;have:=HL.out;omega) (by have:=HL.out;omega) (b.out.nz HK.out) _ U ?_;intro g1 q W3 m o r hz1;have y:=hid o;have L:=hid m;have R:=hid r;have hq:W3.cell? ⟨ob,1,none⟩=some vs:=(am (o.block ob b.out.c.lt (λe=>jN b.out.c.sm b.out.c.ob (by decide) e.symm))).trans b.out.ss3.1;have hqz:ob<W3.heap.size:=ap b.out.c.lt o.size
  have hqf:W3.frozen? ⟨ob,1,none⟩=false:=Lib.frozen_of_heap ((o.block ob b.out.c.lt (λe=>jN b.out.c.sm b.out.c.ob (by decide) e.symm)).trans b.out.c.ob) 1;clear m o r hz1 p;refine gL d (λh=>by simp at h) ?_;clear d K;refine bI 12 (λh=>by simp at h) ?_;refine bI 13 (λh=>by simp at h) ?_;refine fP 14 (λK d=>?_);go_simp;refine gL d (λh=>by simp at h) ?_;clear d K;refine lL (by kernel_rfl) ?_ _;have T:(sm++[Go.Proofs.YthghjlinhokimaaGreatDoor.sm M.s]).length=sm.length+1:=by simp
  have hb2:dW (sm++[Go.Proofs.YthghjlinhokimaaGreatDoor.sm M.s])=dW sm++[.int .u8 (lu M.s)]:=by rw[<- zu1];simp[dW]
  have hG:=b.out.grown (vl':=vl) (vs':=.slice (some ⟨g1,0,none⟩) (sm.length+1) q) (ln':=ln) (sm':=sm++[Go.Proofs.YthghjlinhokimaaGreatDoor.sm M.s]) HK.out (Or.inr U) (λk hk=>by
   rcases hk with e|e
   ·exact Or.inl e
   ·have e3:g1=k:=aH e
    rcases R.out with x|x
    ·exact Or.inr (Or.inl (x.trans (congrArg some e3)))
    ·exact Or.inr (Or.inr (by rw[<- e3,x];exact ak _))) b.out.c.sm ⟨by decide,by decide⟩ y.out 1 _ U
   (fF b.out.c.ln (λj e=>by
     obtain⟨_,h2,cs,h3⟩:=fZ b.out.c.ln j e;exact y.out.block j h2 (λe'=>jN b.out.c.sm h3 (by decide) e'.symm))) (by rw[T,hb2];exact L.out)
  refine Pl.cutE (GV F N ob vl (.slice (some ⟨g1,0,none⟩) (sm.length+1) q) w ⟨M,n,l⟩ ln (sm++[Go.Proofs.YthghjlinhokimaaGreatDoor.sm M.s])) hG ?_;intro V hV;rw[<- HE.out] at hV;have HV:=hid hV;clear hV hG hq hqz hqf y L u b HX R;try go_wp2
  exact Z.out _ _ _ ⟨U,U,U,U,U,U⟩ HV.out
 ·have X:M.sample=[]:=G B
  rw[X,bZ] at Z;have hw':(M.s.w == 0)=false:=by simpa using B
  go_wp2;exact Z.out _ _ _ ⟨U,U,U,U,U,U⟩ H.out
end
section
variable {F : Gx} {N ob : Nat} {vl vs v : Value} {w W : World} {s : Bst} {ln : List Lin} {sm : List UInt8}
theorem xw(hK:GK F N ob)(a:Act)(hC:Ck a F.g v ob)(h:GV F N ob vl vs w s ln sm W)(hb:na s.M.b.l s.M.b.a s.M.b.f=true)(hc:s.M.clock<200000):Code.wp prog (jc 6 eH) (bodyPost prog Tryz.f41 (KP F N ob w ⟨s.M.goOn,s.n,s.l⟩ ln sm)) a W:=by
 obtain⟨sz,df,s0,s1,s2,s6⟩:=hC;obtain⟨f,I,rfl⟩:=vk a sz df;rw[I] at s0 s1 s2 s6;clear I sz df;rw[s0,s1,s2,s6];obtain⟨M,n,l⟩:=s;have c0:=h.c.at 41 (.int .u16 M.t.r) (by decide) U;have c1:=h.c.at 42 (.int .u16 M.t.c) (by decide) U;have c2:=h.c.at 43 (.bool M.t.on) (by decide) U;have c3:=h.c.at 44 (.bool M.t.g) (by decide) U;obtain⟨R,ff⟩:=h.c.gz;have I:=h.c.fit;have HFF:=hid (znI I hc);have B:=hid I;have H:=hid h;have HK:=hid hK;have HC:=hid hc;have HB:=hid hb;obtain⟨T1,T⟩:∃ T1:TM,T1=⟨M.t.r,kZ M.t.r M.t.c M.t.on,M.t.on,lr M.t.c M.t.on M.t.g⟩:=⟨_,U⟩
 have X:=hid T;have hcl:=I.clock;clear h I hc T hb hK;conv=>arg 2;dsimp only[jc,dN,eH,Tryz.f41,Option.getD]
 go_upto_region 21 with(go_at_call 75;refine(zsb _ _ _ _ _ B.out.tc).mono ?_;rintro e w1 ⟨rfl,q⟩;obtain⟨k1,f1⟩:=bQ q;have z2:F.g<w1.heap.size:=pB R q (by simp))
 refine Pl.cutW (GV F N ob vl vs w ⟨{ M with t:=T1 },n,l⟩ ln sm) (by rw[X.out];exact(H.out.kept q).puts (M':={ M with t:=⟨M.t.r,kZ M.t.r M.t.c M.t.on,M.t.on,lr M.t.c M.t.on M.t.g⟩ }) HK.out 41 [.int .u16 M.t.r,.int .u16 (kZ M.t.r M.t.c M.t.on),.bool M.t.on,.bool (lr M.t.c M.t.on M.t.g)] (by simp) (λ_=>U) ⟨U,U,U,U,U⟩ { B.out with main:=B.out.main,tr:=B.out.tr,tc:=pa B.out.tr B.out.tc }) ?_;intro Y hY;have HY:=hid hY;clear hY q k1 f1 z2 c0 c1 c2 c3 ff R;obtain⟨i,u⟩:∃ i:Mach,i={ M with t:=T1 }:=⟨_,U⟩
 rw[<- u] at HY;have L:=hid u;have hs1:i.s=M.s:=by rw[u]
 have hsf:i.s.fit:=by rw[hs1];exact { B.out.s with w:=B.out.w }
 have P:=hid hsf;clear u hs1 hsf;go_upto_region 22 with(first
  | (refine wpList_load_mid U 36 _ U F.g 45 U (dA i.s) _ HY.out.c.sndR underlying36 U kJ ?_)
  | (go_at_call 76;refine(zoL i.s _ P.out).mono ?_;rintro e w2 ⟨rfl,m⟩;have o:=hid (HY.out.kept m);clear m)
  | (refine wpList_store_mid U 36 _ _ U F.g 45 (dA (i.s.ticks 1)).toArray U U (o.out.c.th 45 16 (by decide)) kJ (jP (i.s.ticks 1)) ?_
     refine Pl.cutL (GV F N ob vl vs w ⟨{ i with s:=i.s.ticks 1 },n,l⟩ ln sm) (o.out.puts (M':={ i with s:=i.s.ticks 1 }) HK.out 45 (dA (i.s.ticks 1)) (by simp[dA]) (λtk=>F.putSnd i tk _) ⟨U,U,U,U,U⟩ { o.out.c.fit with main:=o.out.c.fit.main,s:=(Sd.ticks_fit P.out 1).took,w:=(Sd.ticks_fit P.out 1).w }) ?_;intro Z hZ;have p:=hid hZ;clear hZ))
 obtain⟨d,x⟩:∃ d:Mach,d={ i with s:=i.s.ticks 1 }:=⟨_,U⟩
 rw[<- x] at p;have HM2:=hid x;have b0:=p.out.c.at 61 (.int .i64 d.b.l) (by decide) U;have b1:=p.out.c.at 62 (.int .i64 d.b.a) (by decide) U;have b2:=p.out.c.at 63 (.bool d.b.g) (by decide) U;have b3:=p.out.c.at 64 (.int .i64 d.b.f) (by decide) U;obtain⟨R,ff⟩:=p.out.c.gz;have m:d.b=M.b:=by rw[x,L.out]
 have E:d.b.one=⟨tL d.b.l d.b.a,tA d.b.a,tG d.b.l d.b.a d.b.g,tF d.b.l d.b.a d.b.f⟩:=by
  have hk:=(oK _ _ _).1 HB.out;have e:=zxq M.b.l M.b.a M.b.f M.b.g ⟨hk.l0,hk.l1⟩ ⟨hk.a0,hk.a1⟩;rw[m];unfold Bem.one;rw[Q HB.out,e.1,e.2.1,e.2.2.1,e.2.2.2]
 have HONE:=hid E;have hbk:BOr d.b.l d.b.a d.b.f:=p.out.c.fit.b;have j:=hid hbk;clear x HY o m E hbk;go_upto_region 23 with(go_at_call 77;refine(zjC _ _ _ _ _ ⟨j.out.l0,j.out.l1⟩ ⟨j.out.a0,j.out.a1⟩ ⟨j.out.f0,by have:=j.out.f1;omega⟩).mono ?_;rintro e w3 ⟨rfl,y⟩;obtain⟨k3,f3⟩:=bQ y;have z3:F.g<w3.heap.size:=pB R y (by simp))
 refine Pl.cutW (GV F N ob vl vs w ⟨{ d with b:=d.b.one },n,l⟩ ln sm) (by rw[HONE.out];exact(p.out.kept y).puts (M':={ d with b:=⟨tL d.b.l d.b.a,tA d.b.a,tG d.b.l d.b.a d.b.g,tF d.b.l d.b.a d.b.f⟩ }) HK.out 61 [.int .i64 (tL d.b.l d.b.a),.int .i64 (tA d.b.a),.bool (tG d.b.l d.b.a d.b.g),.int .i64 (tF d.b.l d.b.a d.b.f)] (by simp) (λ_=>U) ⟨U,U,U,U,U⟩ { p.out.c.fit with main:=p.out.c.fit.main,b:=by have:=Bem.one_ok j.out;rw[HONE.out] at this;exact this }) ?_;intro V hV;obtain⟨k,z⟩:∃ k:Mach,k={ d with b:=d.b.one }:=⟨_,U⟩
 rw[<- z] at hV;have HV:=hid hV;have hE:M.goOn={ k with clock:=k.clock+1 }:=by
  rw[z,HM2.out,L.out,X.out];rfl
 have HE:=hid hE;have hcl3:0<=k.clock/\k.clock<=200000:=by rw[z,HM2.out,L.out];exact hcl
 have d0:=HV.out.c.at 72 (.int .i64 k.clock) (by decide) U;obtain⟨dz,df⟩:=HV.out.c.gz;have hwr:IntKind.i64.wrap (k.clock+1)=k.clock+1:=by rw[aI];omega
 clear hV z hE y k3 f3 z3 b0 b1 b2 b3 ff R p hcl;go_wp2;go_end0;refine⟨U,vl,vs,?_⟩;rw[HE.out];exact HV.out.puts (M':={ k with clock:=k.clock+1 }) HK.out 72 [.int .i64 (k.clock+1)] (by simp) (λ_=>U) ⟨U,U,U,U,U⟩ (by rw[<- HE.out];exact HFF.out)
end
end Go.Proofs.YthghjlinhokimaaGreatDoor
