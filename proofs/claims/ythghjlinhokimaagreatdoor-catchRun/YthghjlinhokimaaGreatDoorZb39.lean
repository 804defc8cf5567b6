/-
  Parts of a proof, joined.
-/
import Derived.Test.YthghjlinhokimaaGreatDoorZbA
import Derived.Test.YthghjlinhokimaaGreatDoorZb33
import Derived.Test.YthghjlinhokimaaGreatDoorZb37
import Derived.Test.YthghjlinhokimaaGreatDoorZb38
import Derived.Test.YthghjlinhokimaaGreatDoorZb36
import Derived.Test.YthghjlinhokimaaGreatDoorZb32
import Derived.Test.YthghjlinhokimaaGreatDoorZb35
set_option linter.all false
set_option maxRecDepth 100000
set_option maxHeartbeats 6400000
open Option renaming none->G,some->A,getD->gV
open Go renaming World->u,Value->π,Calls->Δ,Act->dH,bodyPost->f9
open Bool renaming false->ξ,true->Γ
open Go.Proofs.Tryz renaming prog->ω
open Go.Act renaming put->ag
open Or renaming inl->aj,inr->ao
open Go.Region renaming wanted->b9
open Go.Value renaming int->J,slice->κ,bool->ν,tuple->Ψ,agg->ac
open Go.IntKind renaming i64->Q,u16->Y,u8->au
open Go.Ending renaming returned->μ
open Go.Obj renaming cells->χ
namespace Go.Proofs.YthghjlinhokimaaGreatDoor
open Go.ChangeShapes Go.WideShapes Go.ChangeAt Go.RowKit Go.Proofs.Tryz
section
variable {q : Qe} {w : u} {x : C.St Bst} {d e1 : Nat} {n v : Int}
theorem zqc(R:QS q)(k:Nat)(o:k<32)(p:k≠30)(a:d<8)(b:e1<8)(f:-16<=n/\n<=15)(g:0<=v/\v<=65535)(i:k=12 \/ k=13->0<=n)(l:x.c.ok)(j:4<=q.m.fuel x.s):ve q w k d e1 n v x (C.act q.m ⟨x.c,x.s,K.cyc k⟩ k d e1 n v):=by
 have bd:=C.Cpu.r_bd l d;have be:=C.Cpu.r_bd l e1;have r:k=0 \/ k=1 \/ k=2 \/ k=3 \/ k=4 \/ k=5 \/ k=6 \/ k=7 \/ k=8 \/ k=9 \/ k=10 \/ k=11 \/ k=12 \/ k=13 \/ k=14 \/ k=15 \/ k=16 \/ k=17 \/ k=18 \/ k=19 \/ k=20 \/ k=21 \/ k=22 \/ k=23 \/ k=24 \/ k=25 \/ k=26 \/ k=27 \/ k=28 \/ k=29 \/ k=31:=by omega
 rcases r with rfl|rfl|rfl|rfl|rfl|rfl|rfl|rfl|rfl|rfl|rfl|rfl|rfl|rfl|rfl|rfl|rfl|rfl|rfl|rfl|rfl|rfl|rfl|rfl|rfl|rfl|rfl|rfl|rfl|rfl|rfl
 ·exact kY R 0 d e1 ⟨#[110,111,112]⟩ (by kernel_rfl) a b f (by omega) (by kernel_rfl) D D D D D D D D (Co R a b)
 ·exact kY R 1 d e1 ⟨#[109,111,118]⟩ (by kernel_rfl) a b f (by omega) (by kernel_rfl) D D D D D D D D (Cp R a b)
 ·exact kY R 2 d e1 ⟨#[108,100,105]⟩ (by kernel_rfl) a b f (by omega) (by kernel_rfl) D D D D D D D D (Cq R a b g)
 ·exact kY R 3 d e1 ⟨#[108,100]⟩ (by kernel_rfl) a b f (by omega) (by kernel_rfl) D D D D D D D D (Cr R a b)
 ·exact kY R 4 d e1 ⟨#[115,116]⟩ (by kernel_rfl) a b f (by omega) (by kernel_rfl) D D D D D D D D (Cu R a b (by omega))
 ·exact kY R 5 d e1 ⟨#[108,100,98]⟩ (by kernel_rfl) a b f (by omega) (by kernel_rfl) D D D D D D D D (Cv R a b)
 ·exact kY R 6 d e1 ⟨#[115,116,98]⟩ (by kernel_rfl) a b f (by omega) (by kernel_rfl) D D D D D D D D (Cw R a b (by omega))
 ·exact pi R 7 ⟨#[97,100,100]⟩ (by kernel_rfl) a b ξ ξ (by kernel_rfl) (by kernel_rfl) _ _ _ _ D (M.addN_bd _ _) _ D (λW=>zt4 7 _ _ W bd.1 bd.2 be.1 be.2 (aj D))
 ·exact pi R 8 ⟨#[115,117,98]⟩ (by kernel_rfl) a b ξ ξ (by kernel_rfl) (by kernel_rfl) _ _ _ _ D (M.subN_bd _ _) _ D (λW=>zt5 8 _ _ W bd.1 bd.2 be.1 be.2 (aj D))
 ·exact pi R 9 ⟨#[97,110,100]⟩ (by kernel_rfl) a b ξ ξ (by kernel_rfl) (by kernel_rfl) _ _ _ _ D (M.and_bd _ _ bd.1 bd.2 be.1 be.2) _ D (λW=>zzi _ _ W bd.1 bd.2 be.1 be.2)
 ·exact pi R 10 ⟨#[111,114]⟩ (by kernel_rfl) a b ξ ξ (by kernel_rfl) (by kernel_rfl) _ _ _ _ D (M.or_bd _ _ bd.1 bd.2 be.1 be.2) _ D (λW=>zA7 _ _ W bd.1 bd.2 be.1 be.2)
 ·exact pi R 11 ⟨#[120,111,114]⟩ (by kernel_rfl) a b ξ ξ (by kernel_rfl) (by kernel_rfl) _ _ _ _ D (M.xor_bd _ _ bd.1 bd.2 be.1 be.2) _ D (λW=>zzj _ _ W bd.1 bd.2 be.1 be.2)
 ·exact kY R 12 d e1 ⟨#[115,104,108]⟩ (by kernel_rfl) a b f (by omega) (by kernel_rfl) D D D D D D D D (zBg R a b f (i (by omega)))
 ·exact kY R 13 d e1 ⟨#[115,104,114]⟩ (by kernel_rfl) a b f (by omega) (by kernel_rfl) D D D D D D D D (zBh R a b f (i (by omega)))
 ·exact pi R 14 ⟨#[99,109,112]⟩ (by kernel_rfl) a b ξ Γ (by kernel_rfl) (by kernel_rfl) _ _ _ _ D (M.subN_bd _ _) _ D (λW=>zt5 14 _ _ W bd.1 bd.2 be.1 be.2 (ao D))
 ·exact pi R 15 ⟨#[97,100,100,105]⟩ (by kernel_rfl) a b Γ ξ (by kernel_rfl) (by kernel_rfl) _ _ _ _ D (M.addN_bd _ _) _ D (λW=>zt4 15 _ _ W bd.1 bd.2 (by omega) (by omega) (ao D))
 ·exact kY R 16 d e1 ⟨#[106,109,112]⟩ (by kernel_rfl) a b f (by omega) (by kernel_rfl) D D D D D D D D (rJ R 16 _ (by kernel_rfl) Γ g (by kernel_rfl) (by rfl) (by decide))
 ·exact kY R 17 d e1 ⟨#[106,122]⟩ (by kernel_rfl) a b f (by omega) (by kernel_rfl) D D D D D D D D (rJ R 17 _ (by kernel_rfl) x.c.Z g (by kernel_rfl) (by rfl) (by decide))
 ·exact kY R 18 d e1 ⟨#[106,110]⟩ (by kernel_rfl) a b f (by omega) (by kernel_rfl) D D D D D D D D (rJ R 18 _ (by kernel_rfl) x.c.N g (by kernel_rfl) (by rfl) (by decide))
 ·exact kY R 19 d e1 ⟨#[106,99]⟩ (by kernel_rfl) a b f (by omega) (by kernel_rfl) D D D D D D D D (rJ R 19 _ (by kernel_rfl) x.c.C g (by kernel_rfl) (by rfl) (by decide))
 ·exact kY R 20 d e1 ⟨#[99,97,108,108]⟩ (by kernel_rfl) a b f (by omega) (by kernel_rfl) D D D D D D D D (zBb R a b (by omega) g)
 ·exact kY R 21 d e1 ⟨#[114,101,116]⟩ (by kernel_rfl) a b f (by omega) (by kernel_rfl) D D D D D D D D (zBc R a b)
 ·exact kY R 22 d e1 ⟨#[112,117,115,104]⟩ (by kernel_rfl) a b f (by omega) (by kernel_rfl) D D D D D D D D (zBd R a b (by omega))
 ·exact kY R 23 d e1 ⟨#[112,111,112]⟩ (by kernel_rfl) a b f (by omega) (by kernel_rfl) D D D D D D D D (zBe R a b)
 ·exact kY R 24 d e1 ⟨#[101,105]⟩ (by kernel_rfl) a b f (by omega) (by kernel_rfl) D D D D D D D D (zA8 R a b)
 ·exact kY R 25 d e1 ⟨#[100,105]⟩ (by kernel_rfl) a b f (by omega) (by kernel_rfl) D D D D D D D D (zA9 R a b)
 ·exact kY R 26 d e1 ⟨#[114,116,105]⟩ (by kernel_rfl) a b f (by omega) (by kernel_rfl) D D D D D D D D (zBi R)
 ·exact kY R 27 d e1 ⟨#[104,108,116]⟩ (by kernel_rfl) a b f (by omega) (by kernel_rfl) D D D D D D D D (zBa R a b)
 ·exact pi R 28 ⟨#[109,117,108]⟩ (by kernel_rfl) a b ξ ξ (by kernel_rfl) (by kernel_rfl) _ _ _ _ D (M.mulN_bd _ _) _ D (λW=>zzh _ _ W bd.1 bd.2 be.1 be.2)
 ·refine kY R 29 d e1 ⟨#[106,110,122]⟩ (by kernel_rfl) a b f (by omega) (by kernel_rfl) D D D D D D D D ?_
  have h:=rJ (w:=w) (d:=d) (e1:=e1) (n:=n) (x:=x) R 29 ⟨#[106,110,122]⟩ (by kernel_rfl) (!x.c.Z) g (by kernel_rfl) (by rfl) (by decide);have e:C.act q.m ⟨x.c,x.s,K.cyc 29⟩ 29 d e1 n v=if (!x.c.Z) then C.jump ⟨x.c,x.s,K.cyc 29⟩ v else ⟨x.c,x.s,K.cyc 29⟩:=by
   show (if x.c.Z then _ else _)=_;cases x.c.Z <;> rfl
  rw[e];exact h
 ·exact kY R 31 d e1 ⟨#[116,114,97,112]⟩ (by kernel_rfl) a b f (by omega) (by kernel_rfl) D D D D D D D D (zBf R a b j)
theorem rW_0(a:Int):O.rW a 0=0:=by unfold O.rW;split <;> rfl
theorem zwO(a:Int):(O.rLen a=1 /\ ∀ b,O.rW a b=0) \/ (O.rLen a=2 /\ ∀ b,O.rW a b=b):=by
 unfold O.rLen O.rW;cases O.hasC (O.rk a) 119
 ·exact aj ⟨D,λb=>D⟩
 ·exact ao ⟨D,λb=>D⟩
theorem zn5(R:QS q)(c:C.Cpu)(hc:c.ok)(w:u)(s:Bst)(p:q.I w s)(g:4<=q.m.fuel s)(r:Bool)(t:c.Waits=ξ)(y:r=Γ->c.May=ξ):Δ ω 73 #[jY c,q.v,ν r] w (RP q w (C.order q.m c s)):=by
 have h:=hc.2.2;have z:=R.word s c.PC;have h1:=λW b=>AG R c.PC h.1 h.2 W s b
 have i:=R.word (q.m.rdw s c.PC).2 ((c.PC+2)%65536);have h3:=λW b=>AG R ((c.PC+2)%65536) (by omega) (by omega) W (q.m.rdw s c.PC).2 b
 have f1:=R.frdw s c.PC;have f2:=R.frdw (q.m.rdw s c.PC).2 ((c.PC+2)%65536);have e:C.order q.m c s=C.act q.m ⟨(C.behind q.m c s).c,(C.behind q.m c s).s,K.cyc (O.rk (C.word1 q.m c s))⟩ (O.rk (C.word1 q.m c s)) (O.rD (C.word1 q.m c s)) (O.rS (C.word1 q.m c s)) (O.rN (C.word1 q.m c s)) (O.rW (C.word1 q.m c s) (C.word2 q.m c s)):=D;unfold C.behind C.word2 at e;have L:C.word1 q.m c s=(q.m.rdw s c.PC).1:=D;rw[L] at e;generalize (q.m.rdw s c.PC).1=a at *;generalize (q.m.rdw s c.PC).2=s1 at *;have h2:=λW b=>zgm a 0 z (by omega) W b
 obtain⟨f,j,l⟩:=qF a z;have B:=xG a;have E:=xH a;have F:=xI a;have k:=Bc a;rw[l,rW_0] at h2;obtain⟨d,H⟩:=aA B.1;obtain⟨e1,es⟩:=aA E.1;rw[H,es] at h2 e;rw[H] at B;rw[es] at E;rcases zwO a with⟨n,b⟩|⟨n,b⟩
 ·rw[n] at h2 e
  rw[b] at e;have o:C.order q.m c s=C.act q.m ⟨{ c with PC:=(c.PC+2)%65536 },s1,K.cyc (O.rk a)⟩ (O.rk a) d e1 (O.rN a) 0:=by rw[e];rfl
  rw[o];exact Cl R c hc w s s1 a p t r y h1 (O.rk a) d e1 (O.rN a) f h2 _ (zqc (w:=w) (x:=⟨{ c with PC:=(c.PC+2)%65536 },s1,0⟩) R (O.rk a) f j (by omega) (by omega) F (by omega) k (C.Cpu.ok_pc hc _ (by omega) (by omega)) (ax g f1))
 ·rw[n] at h2 e
  rw[b] at e;have o:C.order q.m c s=C.act q.m ⟨{ c with PC:=(c.PC+4)%65536 },(q.m.rdw s1 ((c.PC+2)%65536)).2,K.cyc (O.rk a)⟩ (O.rk a) d e1 (O.rN a) (q.m.rdw s1 ((c.PC+2)%65536)).1:=by rw[e];rfl
  rw[o];exact Cm R c hc w s s1 _ a _ p t r y h1 (O.rk a) d e1 (O.rN a) f h2 h3 i _ (zqc (w:=w) (x:=⟨{ c with PC:=(c.PC+4)%65536 },(q.m.rdw s1 ((c.PC+2)%65536)).2,0⟩) R (O.rk a) f j (by omega) (by omega) F i k (C.Cpu.ok_pc hc _ (by omega) (by omega)) (ax g (ax f1 f2)))
theorem zn6(R:QS q)(c:C.Cpu)(hc:c.ok)(w:u)(s:Bst)(e:q.I w s)(f:c.Waits=Γ)(r:Bool)(d:r=Γ->c.May=ξ):Δ ω 73 #[jY c,q.v,ν r] w (RP q w ⟨c,s,1⟩):=by
 have a:=hid e;have b:=hid R;clear e R;unfold Qe.v;cases r;rotate_left 1
 ·have g:=d D
  clear d;go_enter func73,ntmps73;go_wp2;exact Ξ (v:=Ψ #[jY c,J Q 1]) (by simp[results,results73,go_sem,f,g]) D ⟨D,b.out.kept a.out (stA (stA (stA (stA (aR w) _) _) _) _),Gw.of_below (b.out.bg a.out) (stA (stA (stA (stA (aR w) _) _) _) _),hc⟩
 ·clear d
  go_enter func73,ntmps73;go_wp2;exact Ξ (v:=Ψ #[jY c,J Q 1]) (by simp[results,results73,go_sem,f]) D ⟨D,b.out.kept a.out (stA (stA (stA (stA (aR w) _) _) _) _),Gw.of_below (b.out.bg a.out) (stA (stA (stA (stA (aR w) _) _) _) _),hc⟩
theorem zrE(R:QS q)(c:C.Cpu)(hc:c.ok)(w:u)(s:Bst)(t:q.I w s)(d:4<=q.m.fuel s)(y:c.May=Γ):Δ ω 73 #[jY c,q.v,ν Γ] w (RP q w { C.leave q.m ⟨c,s,0⟩ 2 with n:=6 }):=by
 have z:=hid R;have B:=hid (SW.start R c hc w s t 0);have L:=hid y;have k:=hid d;clear t R y d;unfold Qe.v;go_enter func73,ntmps73;go_upto_region 4 with fail
 refine cutW (λW=>SW q [] w W ⟨c,s,0⟩) B.out ?_;intro W f;obtain⟨E,H,g,h,i,b,j⟩:=f.cells;have T:=f.lt;have U:=f.fz;rw[show (⟨c,s,0⟩:C.St Bst).c.May=Γ from L.out] at b;have M:=hid f;clear f B;go_wp2_with (first
  | (go_at_call 140;refine(ziw (x:=⟨c,s,0⟩) z.out 2 (by decide) (by decide) k.out M.out).mono ?_;rintro e V ⟨rfl,a⟩;have l:=hid a;clear E H g h i b j;obtain⟨r0,r1,r2,r3,r4,X,Z,r7⟩:=a.regs;obtain⟨E,H,g,h,i,b,j⟩:=a.cells;have N:=a.lt;clear a)
  | (refine wpList_store_mid D 25 (.tmp 6) _ D (w.heap.size+1+1) 0 _ D D ?_ ?_ ?_ ?_
     ·exact l.out.there
     ·exact pO
     ·exact zew (C.leave q.m ⟨c,s,0⟩ 2).c
     refine cutL (λW=>q.I W (C.leave q.m ⟨c,s,0⟩ 2).s/\Gw q.F w W/\W.rangeAt (w.heap.size+1+1) 0 (ku (C.leave q.m ⟨c,s,0⟩ 2).c)) ?_ ?_
     ·exact l.out.fin z.out (ku (C.leave q.m ⟨c,s,0⟩ 2).c) D
     rintro W ⟨o,p,r⟩))
 have P:=zfP W _ _ r;refine Ξ (v:=Ψ #[jY (C.leave q.m ⟨c,s,0⟩ 2).c,J Q 6]) ?_ D ⟨D,o,p,l.out.ok⟩;simp only[results,results73];simp;show (Result.andThen (Sem.run ω (loadVar 25 ⟨w.heap.size+1+1,0,G⟩) W) _)=_;rw[P];rfl
theorem zlJ(R:QS q)(c:C.Cpu)(hc:c.ok)(w:u)(s:Bst)(f:q.I w s)(a:4<=q.m.fuel s)(r:Bool):Δ ω 73 #[jY c,q.v,ν r] w (RP q w (C.step q.m c s r)):=by
 by_cases b:r=Γ->c.May=ξ
 ·have g:(r && c.May)=ξ:=by cases r;rfl;rw[b D];rfl
  cases d:c.Waits
  ·have e:C.step q.m c s r=C.order q.m c s:=by unfold C.step;rw[g,d];rfl
   rw[e];exact zn5 R c hc w s f a r d b
  ·have e:C.step q.m c s r=⟨c,s,1⟩:=by unfold C.step;rw[g,d];rfl
   rw[e];exact zn6 R c hc w s f d r b
 ·obtain⟨rfl,h⟩:r=Γ/\c.May=Γ:=by revert b;cases r <;> cases c.May <;> simp
  have e:C.step q.m c s Γ={ C.leave q.m ⟨c,s,0⟩ 2 with n:=6 }:=by unfold C.step;rw[h];rfl
  rw[e];exact zrE R c hc w s f a h
end
theorem Facts.of_blocks{w w':u}(h:Facts w)(e1:w'.heap[1]?=w.heap[1]?)(e2:w'.heap[0]?=w.heap[0]?)(e3:w'.heap[2]?=w.heap[2]?):Facts w':=by
 obtain⟨t,⟨m,a⟩,s⟩:=h;refine⟨?_,⟨m,(Φ (w:=w) e2).trans a⟩,xj s e3⟩;unfold Lib.TabIs World.var? at t ⊢;rw[zm5] at t ⊢;simp only[oZ] at t ⊢;rw[e1];exact t
theorem at_new{W:u}{o:Obj}{b:Nat}(h:b=W.heap.size):(W.alloc o).heap[b]?=A o:=by subst h;exact aM W o
theorem wC{W:u}{o x:Obj}{b:Nat}(h:W.heap[b]?=A x):(W.alloc o).heap[b]?=A x:=(bJ _ _ (aa.1 h).1).trans h
def sE(w:u)(b:Nat)(v:π):Prop:=∃ t,t≠104/\w.heap[b]?=A (χ #[v] t (0,0))
theorem sE.lt{w:u}{b:Nat}{v:π}(h:sE w b v):b<w.heap.size:=by obtain⟨t,_,e⟩:=h;exact(aa.1 e).1
theorem sE.cell{w:u}{b:Nat}{v:π}(h:sE w b v):w.cell? ⟨b,0,G⟩=A v:=by obtain⟨t,_,e⟩:=h;exact Lib.cell_of_heap e 0
theorem sE.same{w w1:u}{b:Nat}{v:π}(h:sE w b v)(e:w1.heap[b]?=w.heap[b]?):sE w1 b v:=by obtain⟨t,a,c⟩:=h;exact⟨t,a,e.trans c⟩
abbrev Bv:π:=fh 92 #[]
abbrev Bz:π:=fh 93 #[]
abbrev sY(g n:Nat):List (Nat × π):=[(n,pt g 0),(n+2,pt g 0),(n+3,Bv),(n+4,Bz)]
abbrev tO(g n:Nat):List (Nat × π):=[(n,pt g 0),(n+2,pt g 0)]
theorem zoe(g:Nat)(w:u):Δ ω 49 #[pt g 0] w λe w'=>e=μ (memM (w.heap.size+2) (w.heap.size+3) (w.heap.size+4) w.heap.size)/\Below w.heap.size w w'/\w'.heap.size=w.heap.size+5 /\ ∀ y∈sY g w.heap.size,sE w' y.1 y.2:=by
 go_enter func49,ntmps49;go_wp2;refine Ξ (v:=.agg _) (by simp[results,results49,go_sem]) D ⟨D,stA (stA (stA (stA (stA (aR _) _) _) _) _) _,by simp,?_⟩;intro y a;simp only[sY,bp,cz,gC] at a;rcases a with rfl|rfl|rfl|rfl
 ·exact⟨_,by decide,wC (wC (wC (wC (at_new D))))⟩
 ·exact⟨_,by decide,wC (wC (at_new (by simp)))⟩
 ·exact⟨_,by decide,wC (at_new (by simp))⟩
 ·exact⟨_,by decide,at_new (by simp)⟩
theorem zrP(g:Nat)(w:u):Δ ω 74 #[pt g 0] w λe w'=>e=μ (memA (w.heap.size+2) w.heap.size)/\Below w.heap.size w w'/\w'.heap.size=w.heap.size+3 /\ ∀ y∈tO g w.heap.size,sE w' y.1 y.2:=by
 go_enter func74,ntmps74;go_wp2;refine Ξ (v:=.agg _) (by simp[results,results74,go_sem]) D ⟨D,stA (stA (stA (aR _) _) _) _,by simp,?_⟩;intro y a;simp only[tO,bp,cz,gC] at a;rcases a with rfl|rfl
 ·exact⟨_,by decide,wC (wC (at_new D))⟩
 ·exact⟨_,by decide,at_new (by simp)⟩
structure GI (F : Gx) (N : Nat) (bx : List (Nat × π)) (w : u) (s : Bst) : Prop where
 N:N<=w.heap.size
 fx:Facts w
 n:0<=s.n
 gd:∃ v,Gd F w s.M ⟨s.n,s.l,v⟩
 bx:∀ y∈bx,sE w y.1 y.2
structure GF (F : Gx) (N : Nat) (bx : List (Nat × π)) : Prop where
 B:F.B<=N
 all:∀ k,F.all k->k<N
 fx:1<F.B/\0<F.B/\2<F.B
 bx:∀ y∈bx,y.1<N /\ ¬ F.T y.1
section
variable {F : Gx} {N : Nat} {bx : List (Nat × π)} {w w1 : u} {s s' : Bst} {M : Mach} {tk : Tk}
theorem Gd.wty(h:Gd F w M tk):∀ k,tk.v.ownBlock=A k->∃ cs fr,w.heap[k]?=A (χ cs 104 fr):=λk a=>by
 rcases h.ws.2 with⟨b,_⟩|⟨g,c,d,b,_,e,_⟩
 ·rw[b] at a;cases a
 ·rw[b] at a;cases a;exact⟨_,_,e⟩
theorem Gw.bxp(h:Gw F w w1){b:Nat}{v:π}(c:sE w b v)(d:¬ F.T b):sE w1 b v:=by
 obtain⟨t,a,e⟩:=c;exact⟨t,a,h.box e d a⟩
theorem GI.keep(a:GF F N bx)(h:GI F N bx w s)(b:w.heap.size<=w1.heap.size)(e:∀ k,k<N \/ Wt' w k->w1.heap[k]?=w.heap[k]?):GI F N bx w1 s:=by
 obtain⟨v,c⟩:=h.gd;have hB:=a.B
 exact⟨ax h.N b,h.fx.of_blocks (e _ (aj (by have:=a.fx.1;omega))) (e _ (aj (by have:=a.fx.2.1;omega))) (e _ (aj (by have:=a.fx.2.2;omega))),h.n,
  ⟨v,c.of_same b (λk _ f=>e k (aj (a.all k f))) (λk g=>e k (ao (c.wty k g)))⟩,λy d=>(h.bx y d).same (e _ (aj (a.bx y d).1))⟩
theorem GI.moved(b:GF F N bx)(h:GI F N bx w s)(a:Gw F w w1)(d:∃ v,Gd F w1 s'.M ⟨s'.n,s'.l,v⟩)(e:0<=s'.n):GI F N bx w1 s' :=
 ⟨ax h.N (Mv.size a),h.fx.of_blocks (a.below.block _ b.fx.1) (a.below.block _ b.fx.2.1) (a.below.block _ b.fx.2.2),e,d,λy c=>a.bxp (h.bx y c) (b.bx y c).2⟩
theorem GI.pb(a:GF F N bx)(h:GI F N bx w s){b:Nat}(hb:(b,pt F.g 0)∈bx):Pb F w b:=⟨(h.bx _ hb).lt,(h.bx _ hb).cell,(a.bx _ hb).2⟩
abbrev mQ(F:Gx)(N n:Nat):Qe:=⟨bT,F,N,87,94,#[pt n 0,pt (n+2) 0],#[pt (n+2) 0,pt (n+3) 0,pt (n+4) 0,pt n 0],GI F N (sY F.g n)⟩
abbrev aQ(F:Gx)(N n:Nat):Qe:=⟨cL,F,N,148,150,#[pt (n+2) 0],#[pt (n+2) 0,pt n 0],GI F N (tO F.g n)⟩
theorem zzy(n:Nat)(c:GF F N (sY F.g n)):QS (mQ F N n) where
 B:=c.B
 T:=λk q=>c.all k (aj q)
 big:=λh=>h.N
 keep:=λh r e=>h.keep c r e
 facts:=λh=>h.fx
 byte:=λs a=>by
  show 0<=(s.M.rdM a).1%256/\(s.M.rdM a).1%256<=255;omega
 frd:=λs a=>ψ _
 fwr:=λs a b=>by
  have:=AE a (b%256) (by omega);show (1000000000000-s.n).toNat/510<=(1000000000000-(s.n+kt a (b%256))).toNat/510+1;omega
 eg:=λ_ _=>D
 ep:=λ_ _=>D
 get:=λw s a o f h=>by
  obtain⟨v,m⟩:=h.gd;have hb:=zx6 m.fit a;have e1:(bT.rd s a).1=(s.M.rdM a).1:=by show (s.M.rdM a).1%256=_;omega
  show Δ ω 87 #[J Y a,pt n 0,pt (n+2) 0] w _;rw[e1];refine(Gm.getM m (h.pb c (by simp)) (h.pb c (by simp)) a ⟨o,f⟩).mono ?_;rintro e w1 ⟨rfl,i,d⟩;exact⟨D,h.moved c d.w ⟨v,i⟩ h.n,d.w⟩
 put:=λw s a b o f hb j t h=>by
  obtain⟨v,m⟩:=h.gd;have e1:b%256=b:=by omega
  have x:1<=(1000000000000-s.n).toNat/510:=t;have p:0<=s.n/\s.n<=1000000000000:=⟨h.n,by omega⟩
  have y:=AE a b ⟨hb,j⟩;have e2:bT.wr s a b=⟨s.M.wrM a b,s.n+kt a b,s.l⟩:=by show (⟨_,_,_⟩:Bst)=_;rw[e1]
  show Δ ω 94 #[J Y a,J au b,pt (n+2) 0,pt (n+3) 0,pt (n+4) 0,pt n 0] w λe w'=>_/\GI F N (sY F.g n) w' (bT.wr s a b)/\_
  rw[e2];have h2:(n+3,Bv)∈sY F.g n:=by simp
  have h3:(n+4,Bz)∈sY F.g n:=by simp
  refine(Gm.putM m ⟨h.pb c (by simp),h.pb c (by simp),⟨(h.bx _ h2).lt,(h.bx _ h2).cell,(c.bx _ h2).2⟩,⟨(h.bx _ h3).lt,(h.bx _ h3).cell,(c.bx _ h3).2⟩⟩ a b ⟨o,f⟩ ⟨hb,j⟩ p).mono ?_;rintro e w1 ⟨rfl,i,d⟩;exact⟨D,h.moved c d.w ⟨v,i⟩ (by show 0<=s.n+kt a b;omega),d.w⟩
theorem zBo(n:Nat)(d:GF F N (tO F.g n)):QS (aQ F N n) where
 B:=d.B
 T:=λk p=>d.all k (aj p)
 big:=λh=>h.N
 keep:=λh q e=>h.keep d q e
 facts:=λh=>h.fx
 byte:=λs a=>by
  show 0<=(s.M.rdA a).1%256/\(s.M.rdA a).1%256<=255;omega
 frd:=λs a=>ψ _
 fwr:=λs a b=>by
  have:=zjQ s.M a (b%256);show 1000000001-s.l.length<=1000000001-(s.l++s.M.shA a (b%256)).length+1;rw[az];omega
 eg:=λ_ _=>D
 ep:=λ_ _=>D
 get:=λw s a m f h=>by
  obtain⟨v,j⟩:=h.gd;have hb:=zx7 j.fit a;have e1:(cL.rd s a).1=(s.M.rdA a).1:=by show (s.M.rdA a).1%256=_;omega
  show Δ ω 148 #[J Y a,pt (n+2) 0] w _;rw[e1];refine(Gm.getA j (h.pb d (by simp)) a ⟨m,f⟩).mono ?_;rintro e w1 ⟨rfl,i,c⟩;exact⟨D,h.moved d c.w ⟨v,i⟩ h.n,c.w⟩
 put:=λw s a b m f hb o r h=>by
  obtain⟨v,j⟩:=h.gd;have e1:b%256=b:=by omega
  have x:1<=1000000001-s.l.length:=r;have e2:cL.wr s a b=⟨s.M.wrA a b,s.n,s.l++s.M.shA a b⟩:=by show (⟨_,_,_⟩:Bst)=_;rw[e1]
  show Δ ω 150 #[J Y a,J au b,pt (n+2) 0,pt n 0] w λe w'=>_/\GI F N (tO F.g n) w' (cL.wr s a b)/\_
  rw[e2];have ne:∀ b,(b,pt F.g 0)∈tO F.g n->v.ownBlock≠A b:=λb hb e=>by
   obtain⟨t,y,z⟩:=h.bx _ hb;exact mL j.ws z (bZ y) e
  refine(Gm.putA j (h.pb d (by simp)) (h.pb d (by simp)) (ne _ (by simp)) (ne _ (by simp)) a b ⟨m,f⟩ ⟨hb,o⟩ (by show s.l.length<=1000000000;omega)).mono ?_;rintro e w1 ⟨rfl,i,c,_⟩;exact⟨D,h.moved d c i h.n,c⟩
end
noncomputable def iE : Code := Tryz.f41.body.getD .skip
theorem AY(a:dH)(b:a.tmps.size=238)(c:a.defers=[]):∃ f:Nat->π,(∀ i,qs a i=f i)/\a={ tmps:=#[f 0,f 1,f 2,f 3,f 4,f 5,f 6,f 7,f 8,f 9,f 10,f 11,f 12,f 13,f 14,f 15,f 16,f 17,f 18,f 19,f 20,f 21,f 22,f 23,f 24,f 25,f 26,f 27,f 28,f 29,f 30,f 31,f 32,f 33,f 34,f 35,f 36,f 37,f 38,f 39,f 40,f 41,f 42,f 43,f 44,f 45,f 46,f 47,f 48,f 49,f 50,f 51,f 52,f 53,f 54,f 55,f 56,f 57,f 58,f 59,f 60,f 61,f 62,f 63,f 64,f 65,f 66,f 67,f 68,f 69,f 70,f 71,f 72,f 73,f 74,f 75,f 76,f 77,f 78,f 79,f 80,f 81,f 82,f 83,f 84,f 85,f 86,f 87,f 88,f 89,f 90,f 91,f 92,f 93,f 94,f 95,f 96,f 97,f 98,f 99,f 100,f 101,f 102,f 103,f 104,f 105,f 106,f 107,f 108,f 109,f 110,f 111,f 112,f 113,f 114,f 115,f 116,f 117,f 118,f 119,f 120,f 121,f 122,f 123,f 124,f 125,f 126,f 127,f 128,f 129,f 130,f 131,f 132,f 133,f 134,f 135,f 136,f 137,f 138,f 139,f 140,f 141,f 142,f 143,f 144,f 145,f 146,f 147,f 148,f 149,f 150,f 151,f 152,f 153,f 154,f 155,f 156,f 157,f 158,f 159,f 160,f 161,f 162,f 163,f 164,f 165,f 166,f 167,f 168,f 169,f 170,f 171,f 172,f 173,f 174,f 175,f 176,f 177,f 178,f 179,f 180,f 181,f 182,f 183,f 184,f 185,f 186,f 187,f 188,f 189,f 190,f 191,f 192,f 193,f 194,f 195,f 196,f 197,f 198,f 199,f 200,f 201,f 202,f 203,f 204,f 205,f 206,f 207,f 208,f 209,f 210,f 211,f 212,f 213,f 214,f 215,f 216,f 217,f 218,f 219,f 220,f 221,f 222,f 223,f 224,f 225,f 226,f 227,f 228,f 229,f 230,f 231,f 232,f 233,f 234,f 235,f 236,f 237],defers:=[] }:=by
 refine⟨qs a,λ_=>D,?_⟩;obtain⟨t,d⟩:=a;simp only at b c;subst c;have e:t=((List.range 238).map (λi=>t.getD i undef)).toArray:=by
  apply Array.ext
  ·simp[b]
  ·intro i h1 h2
   simp[Array.getD,h1]
 exact congrArg (λt=>({ tmps:=t,defers:=[] }:dH)) (e.trans (by rfl))
structure Ck (a : dH) (g : Nat) (v : π) (ob : Nat) : Prop where
 sz:a.tmps.size=238
 df:a.defers=[]
 s0:qs a 0=pt g 0
 s1:qs a 1=v
 s2:qs a 2=pt ob 0
 s6:qs a 6=pt g 0
structure GC (F : Gx) (N ob : Nat) (vl vs : π) (w : u) (s : Bst) (ln : List Lin) (sm : List UInt8) : Prop where
 n:0<=s.n
 fx:Facts w
 gd:∃ v,Gd F w s.M ⟨s.n,s.l,v⟩
 ob:w.heap[ob]?=A (χ #[vl,vs,κ G 0 0] 47 (0,0))
 ln:w.ownsRow N 68 18 vl ln.length (nj ln)
 sm:w.ownsRow N 5 1 vs sm.length (gJ sm)
structure GK (F : Gx) (N ob : Nat) : Prop where
 B:F.B<=N
 all:∀ k,F.all k->k<N
 fx:1<F.B/\0<F.B/\2<F.B
 ob:N<=ob
section
variable {F : Gx} {N ob : Nat} {vl vs : π} {w w1 : u} {s s' : Bst} {ln : List Lin} {sm : List UInt8} {M : Mach}
theorem GK.nT(a:GK F N ob){k:Nat}(b:N<=k):¬ F.T k:=λh=>by have:=a.all k (aj h);omega
theorem Gw.eq(h:Gw F w w1){b:Nat}{cs:Array π}{t:TypeId}{fr:Nat × Nat}(e:w.heap[b]?=A (χ cs t fr))(a:¬ F.T b)(c:t≠104):w1.heap[b]?=w.heap[b]?:=(h.box e a c).trans e.symm
theorem GC.lt(h:GC F N ob vl vs w s ln sm):ob<w.heap.size:=(aa.1 h.ob).1
theorem GC.big(h:GC F N ob vl vs w s ln sm):F.B<=w.heap.size:=by obtain⟨v,a⟩:=h.gd;exact a.big
theorem GC.kept(h:GC F N ob vl vs w s ln sm)(hb:Below w.heap.size w w1):GC F N ob vl vs w1 s ln sm:=by
 obtain⟨v,a⟩:=h.gd;exact⟨h.n,h.fx.kept hb,⟨v,a.kept hb⟩,(hb.block _ h.lt).trans h.ob,jr h.ln (λj e=>hb.block j (jE h.ln j e).2.1),jr h.sm (λj e=>hb.block j (jE h.sm j e).2.1)⟩
theorem GC.gw(a:GK F N ob)(h:GC F N ob vl vs w s ln sm)(b:Gw F w w1)(c:∃ v,Gd F w1 s'.M ⟨s'.n,s'.l,v⟩)(d:0<=s'.n):GC F N ob vl vs w1 s' ln sm :=
 ⟨d,h.fx.of_blocks (b.below.block _ a.fx.1) (b.below.block _ a.fx.2.1) (b.below.block _ a.fx.2.2),c,b.box h.ob (a.nT a.ob) (by decide),
   jr h.ln (λj e=>by obtain⟨h1,h2,cs,h3⟩:=jE h.ln j e;exact b.eq h3 (a.nT h1) (by decide)),jr h.sm (λj e=>by obtain⟨h1,h2,cs,h3⟩:=jE h.sm j e;exact b.eq h3 (a.nT h1) (by decide))⟩
theorem GC.puts(c:GK F N ob)(h:GC F N ob vl vs w s ln sm){M':Mach}(i:Nat)(L:List π)(hi:i+L.length<=77)(hc:∀ tk,kr (F.cells s.M tk) i L=F.cells M' tk)(d:M'.mrom=s.M.mrom/\M'.arom=s.M.arom/\M'.ram=s.M.ram/\M'.own=s.M.own/\M'.video=s.M.video)(e:M'.fit):GC F N ob vl vs (w.setCells F.g i L) ⟨M',s.n,s.l⟩ ln sm/\Below F.B w (w.setCells F.g i L):=by
 obtain⟨v,a⟩:=h.gd;have b:=(Gt.sets a.nd L i w (Gt.refl F w)).w;exact⟨h.gw c b ⟨v,a.puts (M':=M') (tk':=⟨s.n,s.l,v⟩) i L hi (hc _) d e⟩ h.n,b.below⟩
theorem GC.at(h:GC F N ob vl vs w s ln sm)(i:Nat)(θ:π)(hi:i<75)(e:(υ s.M F.S)[i]?=A θ):w.cell? ⟨F.g,i,G⟩=A θ:=by
 obtain⟨v,a⟩:=h.gd;refine a.at i θ ?_;unfold Gx.cells;rw[bc (by rw[dG];exact hi)];exact e
theorem GC.gz(h:GC F N ob vl vs w s ln sm):F.g<w.heap.size /\ ∀ i,w.frozen? ⟨F.g,i,G⟩=ξ:=by
 obtain⟨v,a⟩:=h.gd;exact⟨a.bx.z,λi=>a.bx.f i⟩
theorem GC.fit(h:GC F N ob vl vs w s ln sm):s.M.fit:=by
 obtain⟨v,a⟩:=h.gd;exact a.fit
theorem GC.sndR(h:GC F N ob vl vs w s ln sm):w.rangeAt F.g 45 (dq s.M.s):=by
 obtain⟨v,a⟩:=h.gd;exact a.sndR
theorem GC.th(h:GC F N ob vl vs w s ln sm)(i n:Nat)(hi:i+n<=77):w.there F.g i n:=by
 obtain⟨v,a⟩:=h.gd;exact a.bx.there i n (by rw[Gx.len];exact hi)
structure Kpt (N ob : Nat) (w : u) (k : Nat) : Prop where
 n:N<=k
 t:∃ cs t fr,w.heap[k]?=A (χ cs t fr)/\t≠104/\t≠25/\t≠47
 l:∀ θ,w.cell? ⟨ob,0,G⟩=A θ->θ.ownBlock≠A k
 s:∀ θ,w.cell? ⟨ob,1,G⟩=A θ->θ.ownBlock≠A k
structure GV (F : Gx) (N ob : Nat) (vl vs : π) (w : u) (s : Bst) (ln : List Lin) (sm : List UInt8) (W : u) : Prop where
 c:GC F N ob vl vs W s ln sm
 b:Below F.B w W
 q:∀ k,Kpt N ob w k->W.heap[k]?=w.heap[k]? /\ vl.ownBlock≠A k/\vs.ownBlock≠A k
variable {W W1 : u}
theorem Kpt.far(h:GV F N ob vl vs w s ln sm W){vl' vs':π}(b:∀ k cs t fr,N<=k->W.heap[k]?=A (χ cs t fr)->t≠104->t≠25->t≠47->vl.ownBlock≠A k->vs.ownBlock≠A k->W1.heap[k]?=W.heap[k]? /\ vl'.ownBlock≠A k/\vs'.ownBlock≠A k):∀ k,Kpt N ob w k->W1.heap[k]?=w.heap[k]? /\ vl'.ownBlock≠A k/\vs'.ownBlock≠A k:=λk a=>by
 obtain⟨e,e1,e2⟩:=h.q k a;obtain⟨cs,t,fr,e3,c,t2,t3⟩:=a.t;obtain⟨g0,g1,d⟩:=b k cs t fr a.n (e.trans e3) c t2 t3 e1 e2;exact⟨g0.trans e,g1,d⟩
theorem GV.gwq(a:GK F N ob)(h:GV F N ob vl vs w s ln sm W)(b:Gw F W W1):∀ k,Kpt N ob w k->W1.heap[k]?=w.heap[k]? /\ vl.ownBlock≠A k/\vs.ownBlock≠A k :=
 Kpt.far h (λk cs t fr c e d _ _ o1 o2=>⟨b.eq e (a.nT c) d,o1,o2⟩)
theorem GV.start(h:GC F N ob vl vs w s ln sm):GV F N ob vl vs w s ln sm w :=
 ⟨h,(bq F.B w),λk a=>⟨D,a.l _ (Lib.cell_of_heap h.ob 0),a.s _ (Lib.cell_of_heap h.ob 1)⟩⟩
theorem GV.kept(h:GV F N ob vl vs w s ln sm W)(hb:Below W.heap.size W W1):GV F N ob vl vs w s ln sm W1:=⟨h.c.kept hb,h.b.trans (hb.mono h.c.big),
 Kpt.far h (λk cs t fr _ e _ _ _ o1 o2=>⟨hb.block k (aa.1 e).1,o1,o2⟩)⟩
theorem GV.puts(a:GK F N ob)(h:GV F N ob vl vs w s ln sm W){M':Mach}(i:Nat)(L:List π)(hi:i+L.length<=77)(hc:∀ tk,kr (F.cells s.M tk) i L=F.cells M' tk)(d:M'.mrom=s.M.mrom/\M'.arom=s.M.arom/\M'.ram=s.M.ram/\M'.own=s.M.own/\M'.video=s.M.video)(e:M'.fit):GV F N ob vl vs w ⟨M',s.n,s.l⟩ ln sm (W.setCells F.g i L):=⟨(h.c.puts a i L hi hc d e).1,h.b.trans (h.c.puts a i L hi hc d e).2,by
 obtain⟨v,f⟩:=h.c.gd;exact h.gwq a (Gt.sets f.nd L i W (Gt.refl F W)).w⟩
def KP(F:Gx)(N ob:Nat)(w:u)(s:Bst)(ln:List Lin)(sm:List UInt8)(e:Ending)(w':u):Prop:=e=μ (Ψ #[]) /\ ∃ vl vs,GV F N ob vl vs w s ln sm w'
end
section
variable {P : Program} {md : Region.Mode} {ops : Array Oper} {η : Exit -> dH -> u -> Prop} {S : u -> Prop} {st : Nat}
theorem zdK{fuel:Nat}{b:Array Bool}{a:dH}{w:u}{i j:Nat}{oi oj:Oper}(h:Region.ready md ops b=[i,j])(hi:ops[i]?=A oi)(m:ops[j]?=A oj)
 (h1:∀ c:dH->u->Prop,Shut (∀ a w,((b.setIfInBounds i Γ).getD st Γ=ξ->S w)->fl P md ops η S st fuel (b.setIfInBounds i Γ) a w->c a w)->if b9 oi (yielded ops a.tmps)=Γ then Oper.wp P oi a w c η else c (a.put oi.dst undef) w)
 (h2:∀ c:dH->u->Prop,Shut (∀ a w,((b.setIfInBounds j Γ).getD st Γ=ξ->S w)->fl P md ops η S st fuel (b.setIfInBounds j Γ) a w->c a w)->if b9 oj (yielded ops a.tmps)=Γ then Oper.wp P oj a w c η else c (a.put oj.dst undef) w) :
 fl P md ops η S st (fuel+1) b a w :=
 And.intro (λl=>(by rw[h] at l;cases l)) (λk d=>(by
  rw[h] at d;rcases bp.1 d with rfl|d
  ·exact qK hi (λc e=>h1 c (λa w f g=>e a w ⟨f,g⟩))
  ·rcases bp.1 d with rfl|d
   ·exact qK m (λc e=>h2 c (λa w f g=>e a w ⟨f,g⟩))
   ·cases d))
end
section
variable {F : Gx} {N ob : Nat} {vl vs v : π} {w W W1 : u} {s : Bst} {ln : List Lin} {sm : List UInt8} {bx : List (Nat × π)}
theorem GV.mainR(h:GV F N ob vl vs w s ln sm W):W.rangeAt F.g 0 (bY s.M.main):=by
 obtain⟨v,a⟩:=h.c.gd;exact a.bx.mid 0 15
theorem GV.auxR(h:GV F N ob vl vs w s ln sm W):W.rangeAt F.g 15 (bY s.M.aux):=by
 obtain⟨v,a⟩:=h.c.gd;exact a.bx.mid 15 15
theorem GV.delay(e:GK F N ob)(h:GV F N ob vl vs w s ln sm W):GV F N ob vl vs w ⟨s.M,0,s.l⟩ ln sm (W.setCell ⟨F.g,76,G⟩ (J Q 0)):=by
 obtain⟨v,a⟩:=h.c.gd;have d:=(Gt.sets a.nd [J Q 0] 76 W (Gt.refl F W)).w;exact⟨h.c.gw e d ⟨v,a.put (M':=s.M) (tk':=⟨0,s.l,v⟩) 76 _ (by omega) D ⟨D,D,D,D,D⟩ a.fit⟩ (jH 0),h.b.trans d.below,h.gwq e d⟩
theorem GV.took(h:GV F N ob vl vs w s ln sm W):W.cell? ⟨F.g,76,G⟩=A (J Q s.n):=by
 obtain⟨v,a⟩:=h.c.gd;exact a.at 76 _ D
theorem GV.nz(h:GV F N ob vl vs w s ln sm W)(a:GK F N ob):N<=W.heap.size:=iy (iC a.ob h.c.lt)
theorem GV.ssM(h:GV F N ob vl vs w s ln sm W){a bg:Bool}(e1:s.M.t.g=a)(e2:s.M.b.g=bg):W.rangeAt F.g 0 (bY s.M.main)/\W.cell? ⟨F.g,44,G⟩=A (ν a)/\W.cell? ⟨F.g,63,G⟩=A (ν bg):=by
 subst e1 e2;exact⟨h.mainR,h.c.at 44 _ (by decide) D,h.c.at 63 _ (by decide) D⟩
theorem GV.ssA(h:GV F N ob vl vs w s ln sm W){a:Bool}(e1:s.M.rung=a):W.rangeAt F.g 15 (bY s.M.aux)/\W.cell? ⟨F.g,71,G⟩=A (ν a):=by
 subst e1;exact⟨h.auxR,h.c.at 71 _ (by decide) D⟩
theorem GV.own(f:GK F N ob)(h:GV F N ob vl vs w s ln sm W){p:Nat}(hp:N<=p){cs:Array π}(e:W.heap[p]?=A (χ cs 25 (0,0)))(i:Nat)(θ:π):GV F N ob vl vs w s ln sm (W.setCell ⟨p,i,G⟩ θ):=by
 have q:=h;obtain⟨r,t,⟨v,l⟩,m,n,o⟩:=h.c;have far:∀ k,k≠p->(W.setCell ⟨p,i,G⟩ θ).heap[k]?=W.heap[k]?:=λk g=>cF _ _ _ _ g
 have ty:∀ k d t' fr,W.heap[k]?=A (χ d t' fr)->t'≠25->k≠p:=λk d t' fr a x g=>by
  subst g;rw[e] at a;simp only[aZ,eJ] at a;exact x a.2.1.symm
 have hB:=f.B;have low:Below F.B W (W.setCell ⟨p,i,G⟩ θ):=Pl.below (ax hB hp) [θ] i W ((aR W).mono l.big);refine⟨⟨r,t.of_blocks (low.block _ f.fx.1) (low.block _ f.fx.2.1) (low.block _ f.fx.2.2),⟨v,l.of_same (by simp) (λk _ y=>far k (by have:=f.all k y;omega)) (λk g=>?_)⟩,(far ob (ty _ _ _ _ m (by decide))).trans m,jr n (λj a=>?_),jr o (λj a=>?_)⟩,h.b.trans low,Kpt.far q (λk d t' fr _ a _ t2 _ o1 o2=>⟨far k (ty _ _ _ _ a t2),o1,o2⟩)⟩
 ·obtain⟨d,fr,a⟩:=l.wty k g
  exact far k (ty _ _ _ _ a (by decide))
 ·obtain⟨_,_,d,a⟩:=jE n j a
  exact far j (ty _ _ _ _ a (by decide))
 ·obtain⟨_,_,d,a⟩:=jE o j a
  exact far j (ty _ _ _ _ a (by decide))
theorem GV.owns(a:GK F N ob){p:Nat}(hp:N<=p):∀(L:List π) (i:Nat) (W:u) (cs:Array π),GV F N ob vl vs w s ln sm W->W.heap[p]?=A (χ cs 25 (0,0))->GV F N ob vl vs w s ln sm (W.setCells p i L)
 | [],_,_,_,h,_=>h
 | θ::L,i,W,cs,h,e=>GV.owns a hp L (i+1) _ _ (h.own a hp e i θ) (vN e θ)
structure KQ (F : Gx) (N ob : Nat) (vl vs : π) (w : u) (s : Bst) (ln : List Lin) (sm : List UInt8) (bx : List (Nat × π)) (W : u) : Prop where
 c:GV F N ob vl vs w s ln sm W
 bx:∀ y∈bx,N<=y.1/\sE W y.1 y.2
theorem KQ.kept(h:KQ F N ob vl vs w s ln sm bx W)(hb:Below W.heap.size W W1):KQ F N ob vl vs w s ln sm bx W1:=⟨h.c.kept hb,λy a=>⟨(h.bx y a).1,(h.bx y a).2.same (hb.block _ (h.bx y a).2.lt)⟩⟩
theorem KQ.gi(h:KQ F N ob vl vs w s ln sm bx W):GI F W.heap.size bx W s:=⟨ψ _,h.c.c.fx,h.c.c.n,h.c.c.gd,λy a=>(h.bx y a).2⟩
theorem KQ.gf(a:GK F N ob)(h:KQ F N ob vl vs w s ln sm bx W):GF F W.heap.size bx :=
 ⟨h.c.c.big,λk d=>by have:=a.all k d;have:=a.ob;have:=h.c.c.lt;omega,a.fx,λy b=>⟨(h.bx y b).2.lt,a.nT (h.bx y b).1⟩⟩
theorem KQ.ofM{a:Nat}(d:N<=a)(h:GV F N ob vl vs w s ln sm W)(c:∀ y∈sY F.g a,sE W y.1 y.2):KQ F N ob vl vs w s ln sm (sY F.g a) W:=⟨h,λy b=>⟨by
 simp only[sY,bp,cz,gC] at b;rcases b with rfl|rfl|rfl|rfl <;> simp only <;> omega,c y b⟩⟩
theorem KQ.ofA{a:Nat}(d:N<=a)(h:GV F N ob vl vs w s ln sm W)(c:∀ y∈tO F.g a,sE W y.1 y.2):KQ F N ob vl vs w s ln sm (tO F.g a) W:=⟨h,λy b=>⟨by
 simp only[tO,bp,cz,gC] at b;rcases b with rfl|rfl <;> simp only <;> omega,c y b⟩⟩
theorem zyd(g:Nat)(W:u)(a:Nat)(b:a=W.heap.size):Δ ω 49 #[pt g 0] W λe w'=>e=μ (memM (a+2) (a+3) (a+4) a)/\Below W.heap.size W w' /\ ∀ y∈sY g a,sE w' y.1 y.2:=by
 subst b;exact(zoe g W).mono (λe w' h=>⟨h.1,h.2.1,h.2.2.2⟩)
theorem zye(g:Nat)(W:u)(a:Nat)(b:a=W.heap.size):Δ ω 74 #[pt g 0] W λe w'=>e=μ (memA (a+2) a)/\Below W.heap.size W w' /\ ∀ y∈tO g a,sE w' y.1 y.2:=by
 subst b;exact(zrP g W).mono (λe w' h=>⟨h.1,h.2.1,h.2.2.2⟩)
theorem zT{p:Nat}{L:List π}{t:TypeId}(e:W.heap[p]?=A (χ L.toArray t (0,0)))(b:L.length=15):W.there p 0 15 :=
 Bx.there (⟨(aa.1 e).1,λj v a=>(Lib.cell_of_heap e (0+j)).trans (by rw[aX,ch];exact a),λo=>Lib.frozen_of_heap e o⟩:Bx W p L) 0 15 (by omega)
abbrev zL:List π:=[J Y 0,J Y 0,J Y 0,J Y 0,J Y 0,J Y 0,J Y 0,J Y 0,J Y 0,ν ξ,ν ξ,ν ξ,ν ξ,ν ξ,ν ξ]
structure KY (F : Gx) (N ob : Nat) (vl vs : π) (w : u) (s : Bst) (ln : List Lin) (sm : List UInt8) (W W1 : u) : Prop where
 c:GV F N ob vl vs w s ln sm W1
 z:W.heap.size<=W1.heap.size
 p:∀(b:Nat) (cs:Array π),N<=b->W.heap[b]?=A (χ cs 25 (0,0))->W1.heap[b]?=A (χ cs 25 (0,0))
theorem zzF(f:GK F N ob){a:Nat}(h:KQ F N ob vl vs w s ln sm (sY F.g a) W)(i:4<=bT.fuel s)(r:Bool):Δ ω 73 #[ac (bY s.M.main).toArray,memM (a+2) (a+3) (a+4) a,ν r] W λe w'=>e=μ (Ψ #[ac (bY (C.step bT s.M.main s r).c).toArray,J Q (C.step bT s.M.main s r).n])/\KY F N ob vl vs w (C.step bT s.M.main s r).s ln sm W w'/\(C.step bT s.M.main s r).c.ok/\(0<=(C.step bT s.M.main s r).n/\(C.step bT s.M.main s r).n<=21)/\bT.fuel s<=bT.fuel (C.step bT s.M.main s r).s+4:=by
 have R:=zzy a (h.gf f);refine(zlJ R s.M.main h.c.c.fit.main W s h.gi i r).mono ?_;rintro e w' ⟨rfl,k,d,j⟩;exact⟨D,⟨⟨h.c.c.gw f d k.gd k.n,h.c.b.trans d.below,h.c.gwq f d⟩,Mv.size d,λb cs hb e=>d.box e (f.nT hb) (by decide)⟩,j,C.step_n _ _ _ (qF _ (R.word s _)).1,C.fuel_step R.frd R.fwr _ _ _⟩
theorem zzG(d:GK F N ob){f:Nat}(h:KQ F N ob vl vs w s ln sm (tO F.g f) W)(i:4<=cL.fuel s)(r:Bool):Δ ω 73 #[ac (bY s.M.aux).toArray,memA (f+2) f,ν r] W λe w'=>e=μ (Ψ #[ac (bY (C.step cL s.M.aux s r).c).toArray,J Q (C.step cL s.M.aux s r).n])/\KY F N ob vl vs w (C.step cL s.M.aux s r).s ln sm W w'/\(C.step cL s.M.aux s r).c.ok/\(0<=(C.step cL s.M.aux s r).n/\(C.step cL s.M.aux s r).n<=21)/\cL.fuel s<=cL.fuel (C.step cL s.M.aux s r).s+4:=by
 have R:=zBo f (h.gf d);refine(zlJ R s.M.aux h.c.c.fit.aux W s h.gi i r).mono ?_;rintro e w' ⟨rfl,k,a,j⟩;exact⟨D,⟨⟨h.c.c.gw d a k.gd k.n,h.c.b.trans a.below,h.c.gwq d a⟩,Mv.size a,λb cs hb e=>a.box e (d.nT hb) (by decide)⟩,j,C.step_n _ _ _ (qF _ (R.word s _)).1,C.fuel_step R.frd R.fwr _ _ _⟩
structure KR (F : Gx) (N ob : Nat) (vl vs : π) (w : u) (s : Bst) (ln : List Lin) (sm : List UInt8) (cc : C.Cpu) (p : Nat) (W : u) : Prop where
 c:GV F N ob vl vs w s ln sm W
 n:N<=p
 p:Bx W p (bY cc)
theorem KR.of(b:GK F N ob)(c:C.Cpu){p:Nat}{L:List π}(a:L.length=15)(h:GV F N ob vl vs w s ln sm W)(hp:N<=p)(e:W.heap[p]?=A (χ L.toArray 25 (0,0))):KR F N ob vl vs w s ln sm c p (W.setCells p 0 (bY c)):=by
 refine⟨GV.owns b hp _ _ _ _ h e,hp,?_⟩;have d:Bx W p L:=⟨(aa.1 e).1,λj v f=>(Lib.cell_of_heap e (0+j)).trans (by rw[aX,ch];exact f),λo=>Lib.frozen_of_heap e o⟩
 have:=d.puts 0 (bY c) (by rw[a];show 0+15<=15;omega);rw[mK _ _ (by rw[a];rfl)] at this;exact this
end
theorem zBs(x:Int)(w:u):(Instr.buildSlice 26 1 #[(0,J au x)]).run ω w=.ok (κ (A ⟨w.heap.size,0,G⟩) 1 1) (w.alloc (χ #[J au x] 5)):=by kernel_rfl
theorem zzJ:(Tryz.prog.info? 5).map (λi=>(i.zero,i.size,i.bytes))=A (A (J au 0),1,1):=by kernel_rfl
section
variable {F : Gx} {N ob : Nat} {vl vs v : π} {w W W1 W3 : u} {s : Bst} {ln : List Lin} {sm : List UInt8} {M : Mach} {n : Int} {l : List Wt}
theorem GV.grown{t:TypeId}{z m:Nat}{q:π}{xs:List π}{vl' vs':π}{ln':List Lin}{sm':List UInt8}(l:GK F N ob)(h:GV F N ob vl vs w s ln sm W)(E:q=vl \/ q=vs)(p:∀ k,vl'.ownBlock=A k \/ vs'.ownBlock=A k->vl.ownBlock=A k \/ vs.ownBlock=A k \/ W.heap.size<=k)(r:W.ownsRow N t z q m xs)(L:t≠104/\t≠47)(o:W.grownBy W3 q.ownBlock)(i:Nat)(v':π)
 (hc:(#[vl,vs,κ G 0 0]:Array π).setIfInBounds i v'=#[vl',vs',κ G 0 0]) (M:W3.ownsRow N 68 18 vl' ln'.length (nj ln')) (P:W3.ownsRow N 5 1 vs' sm'.length (gJ sm')):GV F N ob vl' vs' w s ln' sm' (W3.setCell ⟨ob,i,G⟩ v'):=by
 obtain⟨R,T,⟨v,y⟩,d,_,_⟩:=h.c;have U:=o.size;have H:=h.c.lt;have hB:=l.B;have n:W3.heap[ob]?=W.heap[ob]?:=o.block ob H (λe=>mL r d L.2 e.symm);have hb:Below F.B W W3:=(bq F.B W).grown o y.big (λj e=>ax hB (jE r j e).1);have f:Below F.B W (W3.setCell ⟨ob,i,G⟩ v'):=hb.setCell (ax hB l.ob) _;have V:=y.big;have far:∀ k,k≠ob->(W3.setCell ⟨ob,i,G⟩ v').heap[k]?=W3.heap[k]?:=λk I=>f8 I
 refine⟨⟨R,T.of_blocks (f.block _ l.fx.1) (f.block _ l.fx.2.1) (f.block _ l.fx.2.2),⟨v,y.of_same (ax U (cq (by simp))) (λk g X=>?_) (λk I=>?_)⟩,?_,jr M (λj e=>far j (λa=>?_)),jr P (λj e=>far j (λa=>?_))⟩,h.b.trans f,Kpt.far h (λk cs t' fr R e t1 t2 t3 o1 o2=>?_)⟩
 ·have Z:=l.all k X
  have:=l.ob;exact(far k (by omega)).trans (o.block k (by omega) (λe=>by have:=(jE r k e.symm).1;omega))
 ·obtain⟨cs,fr,e⟩:=y.wty k I
  have g:=(aa.1 e).1;refine(far k (λa=>?_)).trans (o.block k g (λa=>mL r e L.1 a.symm));subst a;rw[d] at e;simp only[aZ,eJ] at e;exact absurd e.2.1 (by decide)
 ·rw[vN (n.trans d),hc]
 ·subst a;exact mL M (n.trans d) (by decide) e
 ·subst a;exact mL P (n.trans d) (by decide) e
 ·have g:=(aa.1 e).1
  refine⟨(far k (λa=>?_)).trans (o.block k g (λa=>?_)),λa=>?_,λa=>?_⟩
  ·subst a
   rw[d] at e;simp only[aZ,eJ] at e;exact t3 e.2.1.symm
  ·rcases E with rfl|rfl
   ·exact o1 a.symm
   ·exact o2 a.symm
  ·rcases p k (aj a) with x|x|x
   ·exact o1 x
   ·exact o2 x
   ·omega
  ·rcases p k (ao a) with x|x|x
   ·exact o1 x
   ·exact o2 x
   ·omega
theorem GV.ss3(h:GV F N ob vl vs w s ln sm W):W.cell? ⟨ob,1,G⟩=A vs/\W.rangeAt F.g 45 (dq s.M.s):=⟨Lib.cell_of_heap h.c.ob 1,h.c.sndR⟩
theorem zxg(d:GK F N ob)(z:Code)(P:Ending->u->Prop)(a:dH)(hC:Ck a F.g v ob)(h:GV F N ob vl vs w s ln sm W)(hl:sm.length<=100000)
 (hz:∀(a':dH) (W':u) (vs':π),Ck a' F.g v ob->GV F N ob vl vs' w s ln (sm++s.M.sample) W'->Code.wp ω z (f9 ω Tryz.f41 P) a' W'):Code.wp ω (.seq (gK 0 (mn 3 iE)) z) (f9 ω Tryz.f41 P) a W:=by
 obtain⟨sz,df,s0,s1,s2,s6⟩:=hC;obtain⟨f,hf,rfl⟩:=AY a sz df;rw[hf] at s0 s1 s2 s6;clear hf sz df;rw[s0,s1,s2,s6];clear s0 s1 s2 s6;obtain⟨M,n,l⟩:=s;have I:=h.c.at 60 (J Q M.s.w) (by decide) D;obtain⟨mz,mf⟩:=h.c.gz;have HK:=hid d;have H:=hid h;have Z:=hid hz;have HL:=hid hl;have HOK:=hid h.c.fit.s;clear d h hz hl;conv=>arg 2;arg 1;dsimp only[mn,gK,iE,Tryz.f41,gV]
 by_cases E:M.s.w=0
 ·have X:M.sample=[Go.Proofs.YthghjlinhokimaaGreatDoor.sm M.s]:=by
   unfold Mach.sample;rw[am E];show []++one M.s=_;unfold one;rw[am E];rfl
  have HE:=hid X;rw[E] at I;clear E X;go_upto_region 10 with fail
  refine Pl.cutW (GV F N ob vl vs w ⟨M,n,l⟩ ln sm) H.out ?_;intro ι hY;have HX:=hid (hY.kept (aR ι).drew);have p:=HX.out.ss3;clear hY I mz mf H;refine qp (S:=λw'=>w'.cell? ⟨ob,1,G⟩=A vs/\w'.rangeAt F.g 45 (dq M.s)) (st:=11) (by kernel_rfl) ?_;refine b8 0 (λ_=>p) ?_;refine b8 1 (λ_=>p) ?_;refine b8 2 (λ_=>p) ?_;refine b8 3 (λ_=>p) ?_;refine b8 5 (λ_=>p) ?_;refine b8 6 (λ_=>p) ?_;refine b8 7 (λ_=>p) ?_;refine rA [11] (i:=4) (oi:=⟨A 100,_,_,_,_,G⟩) (v:=vs) D (aj ⟨by rfl,?_⟩) p ?_
  ·intro w' t
   have hcc:=t.1;have hcz:=aC w' _ hcc;go_simp;try (with_reducible rfl)
  simp only[ag,xA,xB,xC];refine rA [11,9] (i:=8) (oi:=⟨A 104,_,_,_,_,G⟩) (v:=ac (dq M.s).toArray) D (aj ⟨by rfl,λw' t=>ml 36 _ D F.g 45 D (dq M.s) _ t.2 underlying36 D nh⟩) p ?_;simp only[ag,xA,xB,xC];refine jy 9 (λK d=>?_);go_simp;go_at_call 72
  refine(zn1 M.s _ HOK.out).mono ?_;rintro e w1 ⟨rfl,L⟩;have y:=hid (HX.out.kept L);clear L;try go_wp2_with fail
  refine jV d (λ_=>y.out.ss3) ?_;clear d K;refine jy 10 (λK d=>?_);refine xu D 26 1 0 _ D (J au (pK M.s)) D (zBs (pK M.s) _) ?_;have b:=hid (y.out.kept (stA (aR w1) (χ #[J au (pK M.s)] 5)));refine jV d (λ_=>b.out.ss3) ?_;clear d K;refine jy 11 (λK d=>?_);obtain⟨i1,hj0,hy0,hy1,hy2⟩:=info_parts zzJ;refine step_append_lies _ (by rfl) (.tmp 100) (.tmp 106) 26 (by rfl) N 5 i1 _ 1 1 underlying26 hj0 hy0 hy1 hy2 D (by omega) vs sm.length (gJ sm) D b.out.c.sm ⟨w1.heap.size,0,G⟩ 1 1 [J au (pK M.s)] D D (xw [J au (pK M.s)] w1) (by simp[Value.oneCell']) (by omega) (by unfold maxLen;have:=HL.out;omega) (by have:=HL.out;omega) (b.out.nz HK.out) _ D ?_;intro g1 q W3 m o r hz1;have B:=hid o;have R:=hid m;have T:=hid r;have hq:W3.cell? ⟨ob,1,G⟩=A vs:=(Φ (o.block ob b.out.c.lt (λe=>mL b.out.c.sm b.out.c.ob (by decide) e.symm))).trans b.out.ss3.1;have hqz:ob<W3.heap.size:=Θ b.out.c.lt o.size;have hqf:W3.frozen? ⟨ob,1,G⟩=ξ:=Lib.frozen_of_heap ((o.block ob b.out.c.lt (λe=>mL b.out.c.sm b.out.c.ob (by decide) e.symm)).trans b.out.c.ob) 1
  clear m o r hz1 p;refine jV d (λh=>by simp at h) ?_;clear d K;refine b8 12 (λh=>by simp at h) ?_;refine b8 13 (λh=>by simp at h) ?_;refine jy 14 (λK d=>?_);go_simp;refine jV d (λh=>by simp at h) ?_;clear d K;refine pq (by kernel_rfl) ?_ _;have U:(sm++[Go.Proofs.YthghjlinhokimaaGreatDoor.sm M.s]).length=sm.length+1:=by simp
  have hb2:gJ (sm++[Go.Proofs.YthghjlinhokimaaGreatDoor.sm M.s])=gJ sm++[J au (pK M.s)]:=by rw[<- zxW];simp[gJ]
  have hG:=b.out.grown (vl':=vl) (vs':=κ (A ⟨g1,0,G⟩) (sm.length+1) q) (ln':=ln) (sm':=sm++[Go.Proofs.YthghjlinhokimaaGreatDoor.sm M.s]) HK.out (ao D) (λk hk=>by
   rcases hk with e|e
   ·exact aj e
   ·have e3:g1=k:=aL e
    rcases T.out with x|x
    ·exact ao (aj (x.trans (congrArg A e3)))
    ·exact ao (ao (by rw[<- e3,x];exact ψ _))) b.out.c.sm ⟨by decide,by decide⟩ B.out 1 _ D
   (jr b.out.c.ln (λj e=>by
     obtain⟨_,h2,cs,h3⟩:=jE b.out.c.ln j e;exact B.out.block j h2 (λe'=>mL b.out.c.sm h3 (by decide) e'.symm))) (by rw[U,hb2];exact R.out)
  refine Pl.cutE (GV F N ob vl (κ (A ⟨g1,0,G⟩) (sm.length+1) q) w ⟨M,n,l⟩ ln (sm++[Go.Proofs.YthghjlinhokimaaGreatDoor.sm M.s])) hG ?_;intro V hV;rw[<- HE.out] at hV;have HV:=hid hV;clear hV hG hq hqz hqf B R y b HX T;try go_wp2
  exact Z.out _ _ _ ⟨D,D,D,D,D,D⟩ HV.out
 ·have X:M.sample=[]:=ae E
  rw[X,cH] at Z;have hw':(M.s.w == 0)=ξ:=by simpa using E
  go_wp2;exact Z.out _ _ _ ⟨D,D,D,D,D,D⟩ H.out
end
section
variable {F : Gx} {N ob : Nat} {vl vs v : π} {w W : u} {s : Bst} {ln : List Lin} {sm : List UInt8}
theorem CJ(hK:GK F N ob)(a:dH)(hC:Ck a F.g v ob)(h:GV F N ob vl vs w s ln sm W)(hb:pL s.M.b.l s.M.b.a s.M.b.f=Γ)(hc:s.M.clock<200000):Code.wp ω (mn 6 iE) (f9 ω Tryz.f41 (KP F N ob w ⟨s.M.goOn,s.n,s.l⟩ ln sm)) a W:=by
 obtain⟨sz,df,s0,s1,s2,s6⟩:=hC;obtain⟨f,L,rfl⟩:=AY a sz df;rw[L] at s0 s1 s2 s6;clear L sz df;rw[s0,s1,s2,s6];obtain⟨M,n,l⟩:=s;have c0:=h.c.at 41 (J Y M.t.r) (by decide) D;have c1:=h.c.at 42 (J Y M.t.c) (by decide) D;have c2:=h.c.at 43 (ν M.t.on) (by decide) D;have c3:=h.c.at 44 (ν M.t.g) (by decide) D;obtain⟨T,ff⟩:=h.c.gz;have L:=h.c.fit;have HFF:=hid (zqg L hc);have E:=hid L;have H:=hid h;have HK:=hid hK;have HC:=hid hc;have HB:=hid hb;obtain⟨T1,U⟩:∃ T1:TM,T1=⟨M.t.r,oA M.t.r M.t.c M.t.on,M.t.on,oR M.t.c M.t.on M.t.g⟩:=⟨_,D⟩
 have X:=hid U;have hcl:=L.clock;clear h L hc U hb hK;conv=>arg 2;dsimp only[mn,gK,iE,Tryz.f41,gV]
 go_upto_region 21 with(go_at_call 75;refine(zuO _ _ _ _ _ E.out.tc).mono ?_;rintro e w1 ⟨rfl,q⟩;obtain⟨k1,f1⟩:=cj q;have z2:F.g<w1.heap.size:=vO T q (by simp))
 refine Pl.cutW (GV F N ob vl vs w ⟨{ M with t:=T1 },n,l⟩ ln sm) (by rw[X.out];exact(H.out.kept q).puts (M':={ M with t:=⟨M.t.r,oA M.t.r M.t.c M.t.on,M.t.on,oR M.t.c M.t.on M.t.g⟩ }) HK.out 41 [J Y M.t.r,J Y (oA M.t.r M.t.c M.t.on),ν M.t.on,ν (oR M.t.c M.t.on M.t.g)] (by simp) (λ_=>D) ⟨D,D,D,D,D⟩ { E.out with main:=E.out.main,tr:=E.out.tr,tc:=vA E.out.tr E.out.tc }) ?_;intro ι hY;have HY:=hid hY;clear hY q k1 f1 z2 c0 c1 c2 c3 ff T;obtain⟨i,x⟩:∃ i:Mach,i={ M with t:=T1 }:=⟨_,D⟩
 rw[<- x] at HY;have P:=hid x;have hs1:i.s=M.s:=by rw[x]
 have hsf:i.s.fit:=by rw[hs1];exact { E.out.s with w:=E.out.w }
 have R:=hid hsf;clear x hs1 hsf;go_upto_region 22 with(first
  | (refine wpList_load_mid D 36 _ D F.g 45 D (dq i.s) _ HY.out.c.sndR underlying36 D nh ?_)
  | (go_at_call 76;refine(zrr i.s _ R.out).mono ?_;rintro e w2 ⟨rfl,m⟩;have o:=hid (HY.out.kept m);clear m)
  | (refine wpList_store_mid D 36 _ _ D F.g 45 (dq (i.s.ticks 1)).toArray D D (o.out.c.th 45 16 (by decide)) nh (kH (i.s.ticks 1)) ?_
     refine Pl.cutL (GV F N ob vl vs w ⟨{ i with s:=i.s.ticks 1 },n,l⟩ ln sm) (o.out.puts (M':={ i with s:=i.s.ticks 1 }) HK.out 45 (dq (i.s.ticks 1)) (by simp[dq]) (λtk=>F.putSnd i tk _) ⟨D,D,D,D,D⟩ { o.out.c.fit with main:=o.out.c.fit.main,s:=(Sd.ticks_fit R.out 1).took,w:=(Sd.ticks_fit R.out 1).w }) ?_;intro Z hZ;have p:=hid hZ;clear hZ))
 obtain⟨d,y⟩:∃ d:Mach,d={ i with s:=i.s.ticks 1 }:=⟨_,D⟩
 rw[<- y] at p;have HM2:=hid y;have b0:=p.out.c.at 61 (J Q d.b.l) (by decide) D;have b1:=p.out.c.at 62 (J Q d.b.a) (by decide) D;have b2:=p.out.c.at 63 (ν d.b.g) (by decide) D;have b3:=p.out.c.at 64 (J Q d.b.f) (by decide) D;obtain⟨T,ff⟩:=p.out.c.gz;have m:d.b=M.b:=by rw[y,P.out]
 have I:d.b.one=⟨tL d.b.l d.b.a,tA d.b.a,tG d.b.l d.b.a d.b.g,tF d.b.l d.b.a d.b.f⟩:=by
  have hk:=(qo _ _ _).1 HB.out;have e:=zAw M.b.l M.b.a M.b.f M.b.g ⟨hk.l0,hk.l1⟩ ⟨hk.a0,hk.a1⟩;rw[m];unfold Bem.one;rw[am HB.out,e.1,e.2.1,e.2.2.1,e.2.2.2]
 have HONE:=hid I;have hbk:BOr d.b.l d.b.a d.b.f:=p.out.c.fit.b;have j:=hid hbk;clear y HY o m I hbk;go_upto_region 23 with(go_at_call 77;refine(zlp _ _ _ _ _ ⟨j.out.l0,j.out.l1⟩ ⟨j.out.a0,j.out.a1⟩ ⟨j.out.f0,by have:=j.out.f1;omega⟩).mono ?_;rintro e w3 ⟨rfl,z⟩;obtain⟨k3,f3⟩:=cj z;have z3:F.g<w3.heap.size:=vO T z (by simp))
 refine Pl.cutW (GV F N ob vl vs w ⟨{ d with b:=d.b.one },n,l⟩ ln sm) (by rw[HONE.out];exact(p.out.kept z).puts (M':={ d with b:=⟨tL d.b.l d.b.a,tA d.b.a,tG d.b.l d.b.a d.b.g,tF d.b.l d.b.a d.b.f⟩ }) HK.out 61 [J Q (tL d.b.l d.b.a),J Q (tA d.b.a),ν (tG d.b.l d.b.a d.b.g),J Q (tF d.b.l d.b.a d.b.f)] (by simp) (λ_=>D) ⟨D,D,D,D,D⟩ { p.out.c.fit with main:=p.out.c.fit.main,b:=by have:=Bem.one_ok j.out;rw[HONE.out] at this;exact this }) ?_;intro V hV;obtain⟨k,B⟩:∃ k:Mach,k={ d with b:=d.b.one }:=⟨_,D⟩
 rw[<- B] at hV;have HV:=hid hV;have hE:M.goOn={ k with clock:=k.clock+1 }:=by
  rw[B,HM2.out,P.out,X.out];rfl
 have HE:=hid hE;have hcl3:0<=k.clock/\k.clock<=200000:=by rw[B,HM2.out,P.out];exact hcl
 have d0:=HV.out.c.at 72 (J Q k.clock) (by decide) D;obtain⟨dz,df⟩:=HV.out.c.gz;have hwr:IntKind.i64.wrap (k.clock+1)=k.clock+1:=by rw[aH];omega
 clear hV B hE z k3 f3 z3 b0 b1 b2 b3 ff T p hcl;go_wp2;go_end0;refine⟨D,vl,vs,?_⟩;rw[HE.out];exact HV.out.puts (M':={ k with clock:=k.clock+1 }) HK.out 72 [J Q (k.clock+1)] (by simp) (λ_=>D) ⟨D,D,D,D,D⟩ (by rw[<- HE.out];exact HFF.out)
end
end Go.Proofs.YthghjlinhokimaaGreatDoor
