/-
  Parts of a proof, joined.
-/
import Derived.Test.YthghjlinhokimaaGreatDoorZbA
import Derived.Test.YthghjlinhokimaaGreatDoorZb12
import Derived.Test.YthghjlinhokimaaGreatDoorZb11
set_option linter.all false
set_option maxRecDepth 100000
set_option maxHeartbeats 1600000
open Option renaming none->G,some->A
open Go renaming World->u,Value->π,Calls->Δ,TypeId->aJ
open Bool renaming false->ξ,true->Γ
open Go.Proofs.Tryz renaming prog->ω
open Or renaming inl->aj,inr->ao
open Go.Instr renaming index->aK
open Go.Value renaming int->J,bool->ν,agg->ac,pointer->aB
open Go.IntKind renaming i64->Q,u16->Y
open Go.Ending renaming returned->μ
open Go.Obj renaming cells->χ
namespace Go.Proofs.YthghjlinhokimaaGreatDoor
open Go.ChangeShapes Go.WideShapes Go.ChangeAt Go.RowKit Go.Proofs.Tryz
section
variable {σ : Type} {m : C.Mem σ} {B nr nw : Nat} {cr cw : Array π × Array π} {I : u -> σ -> Prop} {T : σ -> Nat -> Prop}
theorem Ay(R:RS m B nr nw cr cw I T)(g:Nat)(X:g=307 \/ g=308 \/ g=309 \/ g=310 \/ g=321)(t:Bool)(k d s:Nat)(n v:Int)(hv:0<=v)(E:v<=65535)(b:Nat)(w:u)(p:Nat)(x:C.St σ)(hx0:0<=x.n)(hx1:x.n<=100)(i:PI B nr nw cr cw I T w p x)(z:C.St σ)(F:z=if t then C.jump x v else x)(hb:w.cell? ⟨b,0,G⟩=A (fv g #[]))(H:∀ W:u,Δ ω g #[jY x.c] W λe w'=>e=μ (ν t)/\Below W.heap.size W w'):Δ ω 357 #[aB (A ⟨p,0,G⟩),lG k d s n v,aB (A ⟨b,0,G⟩)] w (AP B nr nw cr cw I T w p x z):=by
 have hlt:=i.lt;have hne:p≠w.heap.size:=by omega
 have L:p<w.heap.size+1:=by omega
 have hbl:b<w.heap.size:=aC w _ hb;have M:b≠w.heap.size:=by omega
 have P:b<w.heap.size+1:=by omega
 have hw:IntKind.u16.wrap v=v:=by rw[iu];omega
 have j:=hid i;have l:=hid R;obtain⟨c8,c9,c10,c11,c12,c13,c14,c15,c16,c17⟩:=i.cells;obtain⟨c0,c1,c2,c3,c4,c5,c6,c7⟩:=i.regs;have o:=hid H;have U:=hid F;clear i R H F;rcases X with rfl|rfl|rfl|rfl|rfl
 all_goals
  go_enter func357,ntmps357;go_wp2;first
   | (go_region_held3 (λw'=>w'.cell? ⟨b,0,G⟩=A (fv 307 #[])/\w'.cell? ⟨p,0,G⟩=A (J Y (x.c.r 0))/\w'.cell? ⟨p,1,G⟩=A (J Y (x.c.r 1))/\w'.cell? ⟨p,2,G⟩=A (J Y (x.c.r 2))/\w'.cell? ⟨p,3,G⟩=A (J Y (x.c.r 3))/\w'.cell? ⟨p,4,G⟩=A (J Y (x.c.r 4))/\w'.cell? ⟨p,5,G⟩=A (J Y (x.c.r 5))/\w'.cell? ⟨p,6,G⟩=A (J Y (x.c.r 6))/\w'.cell? ⟨p,7,G⟩=A (J Y (x.c.r 7))/\w'.cell? ⟨p,8,G⟩=A (J Y x.c.PC)/\w'.cell? ⟨p,9,G⟩=A (ν x.c.Z)/\w'.cell? ⟨p,10,G⟩=A (ν x.c.N)/\w'.cell? ⟨p,11,G⟩=A (ν x.c.C)/\w'.cell? ⟨p,12,G⟩=A (ν x.c.V)/\w'.cell? ⟨p,13,G⟩=A (ν x.c.May)/\w'.cell? ⟨p,14,G⟩=A (ν x.c.Waits)) ((go_keep;done)) ((refine(o.out _).mono ?_;rintro e w2 ⟨rfl,a⟩;obtain⟨k2,f2⟩:=cj a)))
   | (go_region_held3 (λw'=>w'.cell? ⟨b,0,G⟩=A (fv 308 #[])/\w'.cell? ⟨p,0,G⟩=A (J Y (x.c.r 0))/\w'.cell? ⟨p,1,G⟩=A (J Y (x.c.r 1))/\w'.cell? ⟨p,2,G⟩=A (J Y (x.c.r 2))/\w'.cell? ⟨p,3,G⟩=A (J Y (x.c.r 3))/\w'.cell? ⟨p,4,G⟩=A (J Y (x.c.r 4))/\w'.cell? ⟨p,5,G⟩=A (J Y (x.c.r 5))/\w'.cell? ⟨p,6,G⟩=A (J Y (x.c.r 6))/\w'.cell? ⟨p,7,G⟩=A (J Y (x.c.r 7))/\w'.cell? ⟨p,8,G⟩=A (J Y x.c.PC)/\w'.cell? ⟨p,9,G⟩=A (ν x.c.Z)/\w'.cell? ⟨p,10,G⟩=A (ν x.c.N)/\w'.cell? ⟨p,11,G⟩=A (ν x.c.C)/\w'.cell? ⟨p,12,G⟩=A (ν x.c.V)/\w'.cell? ⟨p,13,G⟩=A (ν x.c.May)/\w'.cell? ⟨p,14,G⟩=A (ν x.c.Waits)) ((go_keep;done)) ((refine(o.out _).mono ?_;rintro e w2 ⟨rfl,a⟩;obtain⟨k2,f2⟩:=cj a)))
   | (go_region_held3 (λw'=>w'.cell? ⟨b,0,G⟩=A (fv 309 #[])/\w'.cell? ⟨p,0,G⟩=A (J Y (x.c.r 0))/\w'.cell? ⟨p,1,G⟩=A (J Y (x.c.r 1))/\w'.cell? ⟨p,2,G⟩=A (J Y (x.c.r 2))/\w'.cell? ⟨p,3,G⟩=A (J Y (x.c.r 3))/\w'.cell? ⟨p,4,G⟩=A (J Y (x.c.r 4))/\w'.cell? ⟨p,5,G⟩=A (J Y (x.c.r 5))/\w'.cell? ⟨p,6,G⟩=A (J Y (x.c.r 6))/\w'.cell? ⟨p,7,G⟩=A (J Y (x.c.r 7))/\w'.cell? ⟨p,8,G⟩=A (J Y x.c.PC)/\w'.cell? ⟨p,9,G⟩=A (ν x.c.Z)/\w'.cell? ⟨p,10,G⟩=A (ν x.c.N)/\w'.cell? ⟨p,11,G⟩=A (ν x.c.C)/\w'.cell? ⟨p,12,G⟩=A (ν x.c.V)/\w'.cell? ⟨p,13,G⟩=A (ν x.c.May)/\w'.cell? ⟨p,14,G⟩=A (ν x.c.Waits)) ((go_keep;done)) ((refine(o.out _).mono ?_;rintro e w2 ⟨rfl,a⟩;obtain⟨k2,f2⟩:=cj a)))
   | (go_region_held3 (λw'=>w'.cell? ⟨b,0,G⟩=A (fv 310 #[])/\w'.cell? ⟨p,0,G⟩=A (J Y (x.c.r 0))/\w'.cell? ⟨p,1,G⟩=A (J Y (x.c.r 1))/\w'.cell? ⟨p,2,G⟩=A (J Y (x.c.r 2))/\w'.cell? ⟨p,3,G⟩=A (J Y (x.c.r 3))/\w'.cell? ⟨p,4,G⟩=A (J Y (x.c.r 4))/\w'.cell? ⟨p,5,G⟩=A (J Y (x.c.r 5))/\w'.cell? ⟨p,6,G⟩=A (J Y (x.c.r 6))/\w'.cell? ⟨p,7,G⟩=A (J Y (x.c.r 7))/\w'.cell? ⟨p,8,G⟩=A (J Y x.c.PC)/\w'.cell? ⟨p,9,G⟩=A (ν x.c.Z)/\w'.cell? ⟨p,10,G⟩=A (ν x.c.N)/\w'.cell? ⟨p,11,G⟩=A (ν x.c.C)/\w'.cell? ⟨p,12,G⟩=A (ν x.c.V)/\w'.cell? ⟨p,13,G⟩=A (ν x.c.May)/\w'.cell? ⟨p,14,G⟩=A (ν x.c.Waits)) ((go_keep;done)) ((refine(o.out _).mono ?_;rintro e w2 ⟨rfl,a⟩;obtain⟨k2,f2⟩:=cj a)))
   | (go_region_held3 (λw'=>w'.cell? ⟨b,0,G⟩=A (fv 321 #[])/\w'.cell? ⟨p,0,G⟩=A (J Y (x.c.r 0))/\w'.cell? ⟨p,1,G⟩=A (J Y (x.c.r 1))/\w'.cell? ⟨p,2,G⟩=A (J Y (x.c.r 2))/\w'.cell? ⟨p,3,G⟩=A (J Y (x.c.r 3))/\w'.cell? ⟨p,4,G⟩=A (J Y (x.c.r 4))/\w'.cell? ⟨p,5,G⟩=A (J Y (x.c.r 5))/\w'.cell? ⟨p,6,G⟩=A (J Y (x.c.r 6))/\w'.cell? ⟨p,7,G⟩=A (J Y (x.c.r 7))/\w'.cell? ⟨p,8,G⟩=A (J Y x.c.PC)/\w'.cell? ⟨p,9,G⟩=A (ν x.c.Z)/\w'.cell? ⟨p,10,G⟩=A (ν x.c.N)/\w'.cell? ⟨p,11,G⟩=A (ν x.c.C)/\w'.cell? ⟨p,12,G⟩=A (ν x.c.V)/\w'.cell? ⟨p,13,G⟩=A (ν x.c.May)/\w'.cell? ⟨p,14,G⟩=A (ν x.c.Waits)) ((go_keep;done)) ((refine(o.out _).mono ?_;rintro e w2 ⟨rfl,a⟩;obtain⟨k2,f2⟩:=cj a)))
  have h:=bw (stA (aR w) (χ #[J Q k,J Q d,J Q s,J Q n,J Q v] 191)).drew a;have f:=j.out.kept l.out h;obtain⟨e8,e9,e10,e11,e12,e13,e14,e15,e16,e17⟩:=f.cells;have ef:=f.frozen;have el:=f.lt;have q4:w2.cell? ⟨w.heap.size,4,G⟩=A (J Q v):=(k2 _ 4 (by simp)).trans (by simp);have ql:w.heap.size<w2.heap.size:=by have:=a.size;simp at this;omega
  have q:=hid f;have y:=hid h;clear f h k2 f2;cases t
  ·go_wp2
   go_end0;rw[U.out];exact⟨D,q.out,(PM.refl B T p x.s w).kept (j.out.hB l.out) y.out⟩
  ·go_wp2
   go_end0;rw[U.out];exact⟨D,(q.out.putPC l.out v hv E).putCyc l.out _,(((PM.refl B T p x.s w).kept (j.out.hB l.out) y.out).set j.out.big 8 _).set j.out.big 17 _⟩
end
abbrev eQ(a b c d e f g:Nat):Array π :=
 #[fv 289 #[],fv 290 #[],fv 291 #[],fv 292 #[],fv 294 #[],fv 296 #[],fv 297 #[],fv 299 #[],fv 299 #[],fv 299 #[],fv 299 #[],fv 299 #[],
   fv 353 #[aB (A ⟨a,0,G⟩)],fv 353 #[aB (A ⟨b,0,G⟩)],fv 303 #[],fv 305 #[],
   fv 357 #[aB (A ⟨c,0,G⟩)],fv 357 #[aB (A ⟨d,0,G⟩)],fv 357 #[aB (A ⟨e,0,G⟩)],fv 357 #[aB (A ⟨f,0,G⟩)],
   fv 311 #[],fv 312 #[],fv 314 #[],fv 315 #[],fv 316 #[],fv 317 #[],fv 318 #[],fv 320 #[],fv 299 #[],
   fv 357 #[aB (A ⟨g,0,G⟩)],.nilFunc,fv 322 #[]]
theorem zre(g:Nat)(w:u):Δ ω 300 #[fv g #[]] w λe w'=>e=μ (fv 353 #[aB (A ⟨w.heap.size,0,G⟩)])/\w'=w.alloc (χ #[fv g #[]] 363):=by
 go_enter func300,ntmps300;go_wp2;go_ret;exact⟨D,D⟩
theorem zs2(g:Nat)(w:u):Δ ω 306 #[fv g #[]] w λe w'=>e=μ (fv 357 #[aB (A ⟨w.heap.size,0,G⟩)])/\w'=w.alloc (χ #[fv g #[]] 366):=by
 go_enter func306,ntmps306;go_wp2;go_ret;exact⟨D,D⟩
theorem zge(w:u)(cs:Array π)(t:aJ)(n:Nat)(h:cs.size=n):(w.alloc (χ cs t)).there w.heap.size 0 n:=λj a=>by
 refine⟨?_,Lib.frozen_of_heap (aM w _) _⟩;rw[ly _ _ _ _ D,jc (by omega)];rfl
theorem below_setCells{n:Nat}{a:u}{b:Nat}(hb:n<=b):∀(vs:List π) (o:Nat) (w:u),Below n a w->Below n a (w.setCells b o vs)
 | [],o,w,h=>h
 | v::vs,o,w,h=>below_setCells hb vs (o+1) _ (h.setCell hb v)
theorem cutL{P:Program}{ops:Array Oper}{rest:List Oper}{η:Exit->Act->u->Prop}{a:Act}{w:u}(K:u->Prop)(h:K w)(k:∀ w',K w'->wpList P ops η rest a w'):wpList P ops η rest a w:=k w h
theorem zs3(a b c d e f g:Nat):(eQ a b c d e f g).all (·.oneCell')=Γ:=by simp[eQ,Value.oneCell']
theorem zlu:(Tryz.prog.info? 325).map (·.size)=A 32:=by kernel_rfl
theorem zrf:Tryz.prog.underlying 325=A (.array 32 324):=by kernel_rfl
def boxes(W:u)(a b c d e f g:Nat):Prop :=
 W.cell? ⟨a,0,G⟩=A (fv 301 #[])/\W.cell? ⟨b,0,G⟩=A (fv 302 #[])/\W.cell? ⟨c,0,G⟩=A (fv 307 #[])/\W.cell? ⟨d,0,G⟩=A (fv 308 #[])/\W.cell? ⟨e,0,G⟩=A (fv 309 #[])/\W.cell? ⟨f,0,G⟩=A (fv 310 #[])/\W.cell? ⟨g,0,G⟩=A (fv 321 #[])
theorem zv3(w:u)(L:List π)(z:Obj)(t t':aJ):boxes (((((((((w.alloc z).alloc (χ #[fv 301 #[]] t)).alloc (χ #[fv 302 #[]] t)).alloc (χ #[fv 307 #[]] t')).alloc (χ #[fv 308 #[]] t')).alloc (χ #[fv 309 #[]] t')).alloc (χ #[fv 310 #[]] t')).alloc (χ #[fv 321 #[]] t')).setCells w.heap.size 0 L)
 (w.heap.size+1) (w.heap.size+1+1) (w.heap.size+1+1+1) (w.heap.size+1+1+1+1) (w.heap.size+1+1+1+1+1) (w.heap.size+1+1+1+1+1+1) (w.heap.size+1+1+1+1+1+1+1):=by
 have a:∀(X:u) (b':Nat),b'≠w.heap.size->(X.setCells w.heap.size 0 L).cell? ⟨b',0,G⟩=X.cell? ⟨b',0,G⟩:=λX b' h=>l7 _ L 0 X _ (λe=>absurd e h)
 unfold boxes;refine⟨?_,?_,?_,?_,?_,?_,?_⟩ <;> rw[a _ _ (by omega)]
 ·rw[aN _ _ _ (by simp <;> omega),aN _ _ _ (by simp <;> omega),aN _ _ _ (by simp <;> omega),aN _ _ _ (by simp <;> omega),aN _ _ _ (by simp <;> omega),aN _ _ _ (by simp <;> omega),ly _ _ _ _ (by simp)];rfl
 ·rw[aN _ _ _ (by simp <;> omega),aN _ _ _ (by simp <;> omega),aN _ _ _ (by simp <;> omega),aN _ _ _ (by simp <;> omega),aN _ _ _ (by simp <;> omega),ly _ _ _ _ (by simp)];rfl
 ·rw[aN _ _ _ (by simp <;> omega),aN _ _ _ (by simp <;> omega),aN _ _ _ (by simp <;> omega),aN _ _ _ (by simp <;> omega),ly _ _ _ _ (by simp)];rfl
 ·rw[aN _ _ _ (by simp <;> omega),aN _ _ _ (by simp <;> omega),aN _ _ _ (by simp <;> omega),ly _ _ _ _ (by simp)];rfl
 ·rw[aN _ _ _ (by simp <;> omega),aN _ _ _ (by simp <;> omega),ly _ _ _ _ (by simp)];rfl
 ·rw[aN _ _ _ (by simp <;> omega),ly _ _ _ _ (by simp)];rfl
 ·rw[ly _ _ _ _ (by simp)];rfl
theorem zpW(w:u):Δ ω 255 #[] w λe w'=>∃ b c d f g i j,e=μ (ac (eQ b c d f g i j))/\boxes w' b c d f g i j/\Below w.heap.size w w':=by
 have a:∀ W:u,W.rangeAt w.heap.size 0 (eQ (w.heap.size+1) (w.heap.size+1+1) (w.heap.size+1+1+1) (w.heap.size+1+1+1+1) (w.heap.size+1+1+1+1+1) (w.heap.size+1+1+1+1+1+1) (w.heap.size+1+1+1+1+1+1+1)).toList->(loadVar 325 ⟨w.heap.size,0,G⟩).run ω W=.ok (ac (eQ (w.heap.size+1) (w.heap.size+1+1) (w.heap.size+1+1+1) (w.heap.size+1+1+1+1) (w.heap.size+1+1+1+1+1) (w.heap.size+1+1+1+1+1+1) (w.heap.size+1+1+1+1+1+1+1))) W:=λW h =>
  run_loadVar_mid W w.heap.size 0 325 _ (.array 32 324) h zrf D zlu
 have n:=hid a;clear a;go_enter func255,ntmps255;go_wp2_with (first
  | (go_at_call 300;refine(zre _ _).mono ?_;rintro e w' ⟨rfl,rfl⟩)
  | (go_at_call 306;refine(zs2 _ _).mono ?_;rintro e w' ⟨rfl,rfl⟩)
  | (refine wpList_store_mid D 325 (.tmp 0) (.tmp 8) D w.heap.size 0 _ D D ?_ ?_ ?_ ?_
     ·exact World.there_alloc (World.there_alloc (World.there_alloc (World.there_alloc (World.there_alloc (World.there_alloc (World.there_alloc (zge w _ _ 32 D) _) _) _) _) _) _) _
     ·exact zlu
     ·exact zs3 (w.heap.size+1) (w.heap.size+1+1) (w.heap.size+1+1+1) (w.heap.size+1+1+1+1) (w.heap.size+1+1+1+1+1) (w.heap.size+1+1+1+1+1+1) (w.heap.size+1+1+1+1+1+1+1)
     refine cutL (λW=>W.rangeAt w.heap.size 0 (eQ (w.heap.size+1) (w.heap.size+1+1) (w.heap.size+1+1+1) (w.heap.size+1+1+1+1) (w.heap.size+1+1+1+1+1) (w.heap.size+1+1+1+1+1+1) (w.heap.size+1+1+1+1+1+1+1)).toList/\boxes W (w.heap.size+1) (w.heap.size+1+1) (w.heap.size+1+1+1) (w.heap.size+1+1+1+1) (w.heap.size+1+1+1+1+1) (w.heap.size+1+1+1+1+1+1) (w.heap.size+1+1+1+1+1+1+1)/\Below w.heap.size w W) ⟨?_,?_,?_⟩ ?_
     ·exact World.rangeAt_setCells_same _ _ _ _ (World.there_alloc (World.there_alloc (World.there_alloc (World.there_alloc (World.there_alloc (World.there_alloc (World.there_alloc (zge w _ _ 32 D) _) _) _) _) _) _) _)
     ·exact zv3 w _ _ _ _
     ·exact below_setCells (ψ _) _ _ _ (stA (stA (stA (stA (stA (stA (stA (stA (aR w) _) _) _) _) _) _) _) _)
     rintro W ⟨l,m,hB⟩;have k:=hid l;have o:=hid m;have p:=hid hB;clear l m hB))
 have q:=n.out W k.out;exact Ξ (v:=ac (eQ (w.heap.size+1) (w.heap.size+1+1) (w.heap.size+1+1+1) (w.heap.size+1+1+1+1) (w.heap.size+1+1+1+1+1) (w.heap.size+1+1+1+1+1+1) (w.heap.size+1+1+1+1+1+1+1))) (by simp only[results,results255];simp;exact q) D ⟨_,_,_,_,_,_,_,D,o.out,p.out⟩
section
variable {σ : Type} {m : C.Mem σ} {B nr nw : Nat} {cr cw : Array π × Array π} {I : u -> σ -> Prop} {T : σ -> Nat -> Prop}
theorem PI.boxF(R:RS m B nr nw cr cw I T){w w0 w1:u}{p:Nat}{x:C.St σ}{s':σ}{cs:Array π}{t:aJ}(h:PI B nr nw cr cw I T w p x)(b:PM B T p x.s s' w0 w1)(e:w0.heap=(w.alloc (χ cs t)).heap)(c:t≠104:=by decide):∀ o,w1.frozen? ⟨w.heap.size,o,G⟩=ξ:=λo=>by
 have a:w.heap.size<w0.heap.size:=by rw[e];simp
 rw[PM.froz b a (by have:=h.lt;omega) (R.outN h.inv e c) o];exact(gt (w:=w.alloc (χ cs t)) (by rw[e])).trans (Lib.frozen_of_heap (aM w _) o)
theorem PI.apart(R:RS m B nr nw cr cw I T){w w0 w1:u}{p:Nat}{x:C.St σ}{s':σ}{cs:Array π}{t:aJ}(h:PI B nr nw cr cw I T w p x)(c:PM B T p x.s s' w0 w1)(e:w0.heap=(w.alloc (χ cs t)).heap)(a:t≠104:=by decide):¬ Tw T w1 s' w.heap.size/\w.heap.size≠p:=by
 have d:w.heap.size<w0.heap.size:=by rw[e];simp
 have hp:=h.lt;refine⟨λf=>?_,by omega⟩;rcases c.fresh _ (ao f) with(b|b)|b
 ·omega
 ·exact R.outN h.inv e a b
 ·omega
theorem PI.other(R:RS m B nr nw cr cw I T){w:u}{p:Nat}{x:C.St σ}(h:PI B nr nw cr cw I T w p x){k:Nat}(a:k≠p)(b:¬ Tw T w x.s k)(i:Nat)(v:π):PI B nr nw cr cw I T (w.setCell ⟨k,i,G⟩ v) p x :=
 ⟨R.keep h.inv (by rw[wo];exact ψ _) (λj c=>cF _ _ _ _ (λe=>b (by have d:j=k:=e;rw[<- d];exact c))),h.own,h.big,(cF _ _ _ _ (λe=>a (show p=k from e).symm)).trans h.blk,h.ok⟩
theorem PI.five(R:RS m B nr nw cr cw I T){w:u}{p:Nat}{x:C.St σ}(h:PI B nr nw cr cw I T w p x){k:Nat}(b:k≠p)(d:¬ Tw T w x.s k)(v0 c v2 v3 v4:π):PI B nr nw cr cw I T (((((w.setCell ⟨k,0,G⟩ v0).setCell ⟨k,1,G⟩ c).setCell ⟨k,2,G⟩ v2).setCell ⟨k,3,G⟩ v3).setCell ⟨k,4,G⟩ v4) p x /\ ∀ j,¬ Tw T w x.s j->¬ Tw T (((((w.setCell ⟨k,0,G⟩ v0).setCell ⟨k,1,G⟩ c).setCell ⟨k,2,G⟩ v2).setCell ⟨k,3,G⟩ v3).setCell ⟨k,4,G⟩ v4) x.s j :=
 have e:=λy=>d (Tw.set (T:=T) (a:=⟨k,0,G⟩) (v:=v0) y)
 have t2:=λy=>e (Tw.set (T:=T) (a:=⟨k,1,G⟩) (v:=c) y)
 have t3:=λy=>t2 (Tw.set (T:=T) (a:=⟨k,2,G⟩) (v:=v2) y)
 have t4:=λy=>t3 (Tw.set (T:=T) (a:=⟨k,3,G⟩) (v:=v3) y)
 ⟨((((h.other R b d 0 v0).other R b e 1 c).other R b t2 2 v2).other R b t3 3 v3).other R b t4 4 v4,λj f y=>f (Tw.set (Tw.set (Tw.set (Tw.set (Tw.set y)))))⟩
theorem PM.setNew{w w':u}{p:Nat}{s s':σ}(h:PM B T p s s' w w')(hB:B<=w.heap.size){k:Nat}(a:w.heap.size<=k)(i:Nat)(v:π):PM B T p s s' w (w'.setCell ⟨k,i,G⟩ v):=(Mv.setCell h (ax hB a) (ao a) v).weak (λk a=>aj (a.imp id Tw.set))
theorem rLen_or(a:Int):O.rLen a=1 \/ O.rLen a=2:=by unfold O.rLen;split <;> simp
theorem zs4(R:RS m B nr nw cr cw I T)(w:u)(p:Nat)(x:C.St σ)(k:PI B nr nw cr cw I T w p x)(a:Int)(o:(m.rdw x.s x.c.PC).1=a)(z:O.rLen a=1):Δ ω 253 #[aB (A ⟨p,0,G⟩)] w λe w'=>e=μ (kD a 0)/\PI B nr nw cr cw I T w' p ⟨{ x.c with PC:=(x.c.PC+2)%65536 },(m.rdw x.s x.c.PC).2,x.n⟩/\PM B T p x.s (m.rdw x.s x.c.PC).2 w w':=by
 have hb:=R.word x.s x.c.PC;rw[o] at hb;have P:=hid o;have E:=hid (λW (h:PI B nr nw cr cw I T W p x)=>zjz R W p x h);rw[o] at E;have F:=k.lt;have f:=hid k;have b:=hid R;have H:=hid (k.box R (χ #[J Q 0,J Q 0,J Q 0,J Q 0,J Q 0] 191));have L:=hid (PM.box R k (χ #[J Q 0,J Q 0,J Q 0,J Q 0,J Q 0] 191));have U:=hid z;have M:¬ (1:Int)<O.rLen a:=by omega
 unfold kD;clear k R o z;go_enter func253,ntmps253;go_wp2_with (first
  | (go_at_call 287;refine(E.out _ ?_).mono ?_;(exact H.out);rintro e w1 ⟨rfl,l,g⟩;obtain⟨i,q⟩:=f.out.boxS b.out g D;have N:=f.out.boxF b.out g D;have j:=hid l;clear l)
  | (go_at_call 271;refine(zfM a 0 hb (by omega) _ (b.out.shapes j.out.inv)).mono ?_;unfold kD;rintro e w2 ⟨rfl,d⟩;obtain⟨k2,V⟩:=cj d;have z2:w.heap.size<w2.heap.size:=Θ i d.size))
 obtain⟨r,t⟩:=f.out.apart b.out g D;refine Ξ (v:=ac #[J Q (O.rOp a),J Q (O.rD a),J Q (O.rS a),J Q (O.rN a),J Q (O.rW a 0)]) (by simp[results,results253,go_sem,z2,k2,i,q]) D ⟨D,?_,?_⟩
 ·exact(((j.out.kept b.out d).five b.out t (λy=>r (y.same (d.block _ i))) _ _ _ _ _).1.box b.out _).same b.out D
 ·exact((((((((L.out.trans g).kept (j.out.hB b.out) d).setNew (f.out.hB b.out) (ψ _) 0 _).setNew (f.out.hB b.out) (ψ _) 1 _).setNew (f.out.hB b.out) (ψ _) 2 _).setNew (f.out.hB b.out) (ψ _) 3 _).setNew (f.out.hB b.out) (ψ _) 4 _).alloc (f.out.hB b.out) _)
theorem zs5(R:RS m B nr nw cr cw I T)(w:u)(p:Nat)(x:C.St σ)(P:PI B nr nw cr cw I T w p x)(a b:Int)(f:C.St σ)(E:f=⟨{ x.c with PC:=(x.c.PC+2)%65536 },(m.rdw x.s x.c.PC).2,x.n⟩)(ha:(m.rdw x.s x.c.PC).1=a)(hl:O.rLen a=2)(F:(m.rdw f.s f.c.PC).1=b):Δ ω 253 #[aB (A ⟨p,0,G⟩)] w λe w'=>e=μ (kD a b)/\PI B nr nw cr cw I T w' p ⟨{ f.c with PC:=(f.c.PC+2)%65536 },(m.rdw f.s f.c.PC).2,f.n⟩/\PM B T p x.s (m.rdw f.s f.c.PC).2 w w':=by
 have hb:=R.word x.s x.c.PC;rw[ha] at hb;have U:=R.word f.s f.c.PC;rw[F] at U;have HN:=hid (λW (h:PI B nr nw cr cw I T W p x)=>zjz R W p x h);rw[ha,<- E] at HN;have V:=hid (λW (h:PI B nr nw cr cw I T W p f)=>zjz R W p f h);rw[F] at V;have es:f.s=(m.rdw x.s x.c.PC).2:=by rw[E]
 rw[<- es] at HN;have hlt:=P.lt;have HP:=hid P;have g:=hid R;have HB:=hid (P.box R (χ #[J Q 0,J Q 0,J Q 0,J Q 0,J Q 0] 191));have HM:=hid (PM.box R P (χ #[J Q 0,J Q 0,J Q 0,J Q 0,J Q 0] 191));have hl1:(1:Int)<O.rLen a:=by omega
 unfold kD;clear P R ha hl F E es;go_enter func253,ntmps253;go_wp2_with (first
  | (go_at_call 287;first
      | (refine(V.out _ ?_).mono ?_;(exact HB2.out);rintro e z ⟨rfl,X,d⟩;obtain⟨z3,q3⟩:=H.out.boxS g.out d D;have hf3:=H.out.boxF g.out d D;have L:=hKP.out z d;have M:=hid X;clear X)
      | (refine(HN.out _ ?_).mono ?_;(exact HB.out);rintro e w1 ⟨rfl,Z,q⟩;obtain⟨k,hq1⟩:=HP.out.boxS g.out q D;have hf1:=HP.out.boxF g.out q D;obtain⟨N,r⟩:=HP.out.apart g.out q D;have t:=hid Z;clear Z))
  | (go_at_call 271;first
      | (refine(zfM a b hb U _ (g.out.shapes M.out.inv)).mono ?_;unfold kD;rintro e w4 ⟨rfl,j⟩;obtain⟨k4,g4⟩:=cj j;have z4:=Θ z3 j.size;have z4':=Θ L.1 j.size)
      | (refine(zfM a 0 hb (by omega) _ (g.out.shapes t.out.inv)).mono ?_;unfold kD;rintro e w2 ⟨rfl,i⟩;obtain⟨k2,g2⟩:=cj i;have z2:w.heap.size<w2.heap.size:=Θ k i.size;have H:=hid (t.out.kept g.out i);have HB2:=hid ((t.out.kept g.out i).box g.out (χ #[J Q (O.rOp a),J Q (O.rD a),J Q (O.rS a),J Q (O.rN a),J Q (O.rW a 0)] 191));have hKP:Hid (∀ z,PM B T p f.s (m.rdw f.s f.c.PC).2 (w2.alloc (χ #[J Q (O.rOp a),J Q (O.rD a),J Q (O.rS a),J Q (O.rN a),J Q (O.rW a 0)] 191)) z->w.heap.size<z.heap.size/\(∀ o,z.cell? ⟨w.heap.size,o,G⟩=w2.cell? ⟨w.heap.size,o,G⟩) /\ ∀ o,z.frozen? ⟨w.heap.size,o,G⟩=ξ):=λz d=>⟨Θ (Θ z2 (by simp)) d.size,λo=>(PM.cell d (by simp;omega) r (λy=>N ((y.same (bJ _ _ z2)).same (i.block _ k))) o).trans (aN _ _ _ z2),λo=>(PM.froz d (by simp;omega) r (λy=>N ((y.same (bJ _ _ z2)).same (i.block _ k))) o).trans ((gt (w:=w2) (bJ _ _ z2)).trans ((g2 _ _ k).trans (hf1 o)))⟩)))
 have hb3:¬ Tw T z (m.rdw f.s f.c.PC).2 w.heap.size:=λht=>by
  rcases d.fresh _ (ao ht) with(hx|hx)|hx
  ·exact r hx
  ·exact N ((hx.same (kh _ _ _ z2)).same (i.block _ k))
  ·simp at hx;omega
 obtain⟨ha3,hp3⟩:=H.out.apart g.out d D;refine Ξ (v:=ac #[J Q (O.rOp a),J Q (O.rD a),J Q (O.rS a),J Q (O.rN a),J Q (O.rW a b)]) (by simp[results,results253,go_sem,k4,L,k2,k,hq1]) D ⟨D,?_,?_⟩
 ·have h4:=M.out.kept g.out j
  obtain⟨h5,h6⟩:=h4.five g.out hp3 (λy=>ha3 (y.same (j.block _ z3))) (J Q (O.rOp a)) (J Q (O.rD a)) (J Q (O.rS a)) (J Q (O.rN a)) (J Q (O.rW a b));exact(h5.five g.out r (h6 _ (λy=>hb3 (y.same (j.block _ L.1)))) _ _ _ _ _).1
 ·have hB:=HP.out.hB g.out
  have l:w.heap.size<=w2.heap.size:=by omega
  exact((((((((((((((HM.out.trans q).kept (t.out.hB g.out) i).alloc hB _).trans d).kept (M.out.hB g.out) j).setNew hB l 0 _).setNew hB l 1 _).setNew hB l 2 _).setNew hB l 3 _).setNew hB l 4 _).setNew hB (ψ _) 0 _).setNew hB (ψ _) 1 _).setNew hB (ψ _) 2 _).setNew hB (ψ _) 3 _).setNew hB (ψ _) 4 _
theorem zs6(R:RS m B nr nw cr cw I T)(w:u)(p:Nat)(x:C.St σ)(a:PI B nr nw cr cw I T w p x):Δ ω 253 #[aB (A ⟨p,0,G⟩)] w λe w'=>e=μ (kD (C.word1 m x.c x.s) (C.word2 m x.c x.s))/\PI B nr nw cr cw I T w' p { C.behind m x.c x.s with n:=x.n }/\PM B T p x.s (C.behind m x.c x.s).s w w':=by
 rcases rLen_or (C.word1 m x.c x.s) with h|h
 ·have h2:¬ O.rLen (C.word1 m x.c x.s)=2:=by omega
  have e1:C.word2 m x.c x.s=0:=by unfold C.word2;rw[ae h2]
  have e2:C.behind m x.c x.s=⟨{ x.c with PC:=(x.c.PC+2)%65536 },(m.rdw x.s x.c.PC).2,0⟩:=by unfold C.behind;rw[ae h2,h];rfl
  rw[e1,e2];exact zs4 R w p x a _ D h
 ·have e1:C.word2 m x.c x.s=(m.rdw (m.rdw x.s x.c.PC).2 ((x.c.PC+2)%65536)).1:=by unfold C.word2;rw[am h]
  have e2:C.behind m x.c x.s=⟨{ x.c with PC:=((x.c.PC+2)%65536+2)%65536 },(m.rdw (m.rdw x.s x.c.PC).2 ((x.c.PC+2)%65536)).2,0⟩:=by
   unfold C.behind;rw[am h,h];have:(x.c.PC+2*2)%65536=((x.c.PC+2)%65536+2)%65536:=by omega
   rw[this]
  rw[e1,e2];exact zs5 R w p x a _ _ _ D D h D
end
section
variable {σ : Type} {m : C.Mem σ} {B nr nw : Nat} {cr cw : Array π × Array π} {I : u -> σ -> Prop} {T : σ -> Nat -> Prop}
theorem zyV(R:RS m B nr nw cr cw I T)(d s:Nat)(n v:Int)(g:0<=v)(a:v<=65535)(b:Nat)(w:u)(p:Nat)(x:C.St σ)(e:0<=x.n)(f:x.n<=100)(h:PI B nr nw cr cw I T w p x)(hb:w.cell? ⟨b,0,G⟩=A (fv 307 #[])):Δ ω 357 #[aB (A ⟨p,0,G⟩),lG 16 d s n v,aB (A ⟨b,0,G⟩)] w (AP B nr nw cr cw I T w p x (C.act m x 16 d s n v)) :=
 Ay R _ (aj rfl) Γ 16 d s n v g a b w p x e f h _ rfl hb (λW=>zyR x.c W)
theorem zyW(R:RS m B nr nw cr cw I T)(d s:Nat)(n v:Int)(g:0<=v)(a:v<=65535)(b:Nat)(w:u)(p:Nat)(x:C.St σ)(e:0<=x.n)(f:x.n<=100)(h:PI B nr nw cr cw I T w p x)(hb:w.cell? ⟨b,0,G⟩=A (fv 308 #[])):Δ ω 357 #[aB (A ⟨p,0,G⟩),lG 17 d s n v,aB (A ⟨b,0,G⟩)] w (AP B nr nw cr cw I T w p x (C.act m x 17 d s n v)) :=
 Ay R _ (ao (aj rfl)) x.c.Z 17 d s n v g a b w p x e f h _ rfl hb (λW=>zyS x.c W)
theorem zyX(R:RS m B nr nw cr cw I T)(d s:Nat)(n v:Int)(g:0<=v)(a:v<=65535)(b:Nat)(w:u)(p:Nat)(x:C.St σ)(e:0<=x.n)(f:x.n<=100)(h:PI B nr nw cr cw I T w p x)(hb:w.cell? ⟨b,0,G⟩=A (fv 309 #[])):Δ ω 357 #[aB (A ⟨p,0,G⟩),lG 18 d s n v,aB (A ⟨b,0,G⟩)] w (AP B nr nw cr cw I T w p x (C.act m x 18 d s n v)) :=
 Ay R _ (ao (ao (aj rfl))) x.c.N 18 d s n v g a b w p x e f h _ rfl hb (λW=>zyT x.c W)
theorem zyY(R:RS m B nr nw cr cw I T)(d s:Nat)(n v:Int)(g:0<=v)(a:v<=65535)(b:Nat)(w:u)(p:Nat)(x:C.St σ)(e:0<=x.n)(f:x.n<=100)(h:PI B nr nw cr cw I T w p x)(hb:w.cell? ⟨b,0,G⟩=A (fv 310 #[])):Δ ω 357 #[aB (A ⟨p,0,G⟩),lG 19 d s n v,aB (A ⟨b,0,G⟩)] w (AP B nr nw cr cw I T w p x (C.act m x 19 d s n v)) :=
 Ay R _ (ao (ao (ao (aj rfl)))) x.c.C 19 d s n v g a b w p x e f h _ rfl hb (λW=>zyU x.c W)
theorem zyZ(R:RS m B nr nw cr cw I T)(d s:Nat)(n v:Int)(g:0<=v)(a:v<=65535)(b:Nat)(w:u)(p:Nat)(x:C.St σ)(e:0<=x.n)(f:x.n<=100)(h:PI B nr nw cr cw I T w p x)(hb:w.cell? ⟨b,0,G⟩=A (fv 321 #[])):Δ ω 357 #[aB (A ⟨p,0,G⟩),lG 29 d s n v,aB (A ⟨b,0,G⟩)] w (AP B nr nw cr cw I T w p x (C.act m x 29 d s n v)) :=
 Ay R _ (ao (ao (ao (ao rfl)))) (!x.c.Z) 29 d s n v g a b w p x e f h _ (by show (if x.c.Z then x else C.jump x v)=_;cases x.c.Z <;> rfl) hb (λW=>zv2 x.c W)
theorem zv4(a b c d e f g:Nat)(w:u):(aK 325 (ac (eQ a b c d e f g)) (J Q 0)).run ω w=.ok (fv 289 #[]) w:=by kernel_rfl
theorem zv5(a b c d e f g:Nat)(w:u):(aK 325 (ac (eQ a b c d e f g)) (J Q 1)).run ω w=.ok (fv 290 #[]) w:=by kernel_rfl
theorem zv6(a b c d e f g:Nat)(w:u):(aK 325 (ac (eQ a b c d e f g)) (J Q 2)).run ω w=.ok (fv 291 #[]) w:=by kernel_rfl
theorem zv7(a b c d e f g:Nat)(w:u):(aK 325 (ac (eQ a b c d e f g)) (J Q 3)).run ω w=.ok (fv 292 #[]) w:=by kernel_rfl
theorem zv8(a b c d e f g:Nat)(w:u):(aK 325 (ac (eQ a b c d e f g)) (J Q 4)).run ω w=.ok (fv 294 #[]) w:=by kernel_rfl
theorem zv9(a b c d e f g:Nat)(w:u):(aK 325 (ac (eQ a b c d e f g)) (J Q 5)).run ω w=.ok (fv 296 #[]) w:=by kernel_rfl
theorem zwa(a b c d e f g:Nat)(w:u):(aK 325 (ac (eQ a b c d e f g)) (J Q 6)).run ω w=.ok (fv 297 #[]) w:=by kernel_rfl
theorem zwb(a b c d e f g:Nat)(w:u):(aK 325 (ac (eQ a b c d e f g)) (J Q 7)).run ω w=.ok (fv 299 #[]) w:=by kernel_rfl
theorem zwc(a b c d e f g:Nat)(w:u):(aK 325 (ac (eQ a b c d e f g)) (J Q 8)).run ω w=.ok (fv 299 #[]) w:=by kernel_rfl
theorem zwd(a b c d e f g:Nat)(w:u):(aK 325 (ac (eQ a b c d e f g)) (J Q 9)).run ω w=.ok (fv 299 #[]) w:=by kernel_rfl
theorem zs7(a b c d e f g:Nat)(w:u):(aK 325 (ac (eQ a b c d e f g)) (J Q 10)).run ω w=.ok (fv 299 #[]) w:=by kernel_rfl
theorem zs8(a b c d e f g:Nat)(w:u):(aK 325 (ac (eQ a b c d e f g)) (J Q 11)).run ω w=.ok (fv 299 #[]) w:=by kernel_rfl
theorem zs9(a b c d e f g:Nat)(w:u):(aK 325 (ac (eQ a b c d e f g)) (J Q 12)).run ω w=.ok (fv 353 #[aB (A ⟨a,0,G⟩)]) w:=by kernel_rfl
theorem zta(b a c d e f g:Nat)(w:u):(aK 325 (ac (eQ b a c d e f g)) (J Q 13)).run ω w=.ok (fv 353 #[aB (A ⟨a,0,G⟩)]) w:=by kernel_rfl
theorem ztb(a b c d e f g:Nat)(w:u):(aK 325 (ac (eQ a b c d e f g)) (J Q 14)).run ω w=.ok (fv 303 #[]) w:=by kernel_rfl
theorem ztc(a b c d e f g:Nat)(w:u):(aK 325 (ac (eQ a b c d e f g)) (J Q 15)).run ω w=.ok (fv 305 #[]) w:=by kernel_rfl
theorem ztd(b c a d e f g:Nat)(w:u):(aK 325 (ac (eQ b c a d e f g)) (J Q 16)).run ω w=.ok (fv 357 #[aB (A ⟨a,0,G⟩)]) w:=by kernel_rfl
theorem zte(b c d a e f g:Nat)(w:u):(aK 325 (ac (eQ b c d a e f g)) (J Q 17)).run ω w=.ok (fv 357 #[aB (A ⟨a,0,G⟩)]) w:=by kernel_rfl
theorem ztf(b c d e a f g:Nat)(w:u):(aK 325 (ac (eQ b c d e a f g)) (J Q 18)).run ω w=.ok (fv 357 #[aB (A ⟨a,0,G⟩)]) w:=by kernel_rfl
theorem ztg(b c d e f a g:Nat)(w:u):(aK 325 (ac (eQ b c d e f a g)) (J Q 19)).run ω w=.ok (fv 357 #[aB (A ⟨a,0,G⟩)]) w:=by kernel_rfl
theorem zth(a b c d e f g:Nat)(w:u):(aK 325 (ac (eQ a b c d e f g)) (J Q 20)).run ω w=.ok (fv 311 #[]) w:=by kernel_rfl
theorem zti(a b c d e f g:Nat)(w:u):(aK 325 (ac (eQ a b c d e f g)) (J Q 21)).run ω w=.ok (fv 312 #[]) w:=by kernel_rfl
theorem ztj(a b c d e f g:Nat)(w:u):(aK 325 (ac (eQ a b c d e f g)) (J Q 22)).run ω w=.ok (fv 314 #[]) w:=by kernel_rfl
theorem ztk(a b c d e f g:Nat)(w:u):(aK 325 (ac (eQ a b c d e f g)) (J Q 23)).run ω w=.ok (fv 315 #[]) w:=by kernel_rfl
theorem ztl(a b c d e f g:Nat)(w:u):(aK 325 (ac (eQ a b c d e f g)) (J Q 24)).run ω w=.ok (fv 316 #[]) w:=by kernel_rfl
theorem ztm(a b c d e f g:Nat)(w:u):(aK 325 (ac (eQ a b c d e f g)) (J Q 25)).run ω w=.ok (fv 317 #[]) w:=by kernel_rfl
theorem ztn(a b c d e f g:Nat)(w:u):(aK 325 (ac (eQ a b c d e f g)) (J Q 26)).run ω w=.ok (fv 318 #[]) w:=by kernel_rfl
theorem zto(a b c d e f g:Nat)(w:u):(aK 325 (ac (eQ a b c d e f g)) (J Q 27)).run ω w=.ok (fv 320 #[]) w:=by kernel_rfl
theorem ztp(a b c d e f g:Nat)(w:u):(aK 325 (ac (eQ a b c d e f g)) (J Q 28)).run ω w=.ok (fv 299 #[]) w:=by kernel_rfl
theorem ztq(b c d e f g a:Nat)(w:u):(aK 325 (ac (eQ b c d e f g a)) (J Q 29)).run ω w=.ok (fv 357 #[aB (A ⟨a,0,G⟩)]) w:=by kernel_rfl
theorem ztr(a b c d e f g:Nat)(w:u):(aK 325 (ac (eQ a b c d e f g)) (J Q 31)).run ω w=.ok (fv 322 #[]) w:=by kernel_rfl
end
section
variable {σ : Type} {m : C.Mem σ} {B nr nw : Nat} {cr cw : Array π × Array π} {I : u -> σ -> Prop} {T : σ -> Nat -> Prop}
theorem pG(R:RS m B nr nw cr cw I T)(k:Nat)(hk:k<32)(U:k≠30)(g:Nat)(hcf:∀(a:Array π) (w:u),(callFunc g a).run ω w=.ok (.enter g a) w)
 (hi:∀(i j l o q t z:Nat) (w:u),(aK 325 (ac (eQ i j l o q t z)) (J Q k)).run ω w=.ok (fv g #[]) w)
 (d s:Nat) (n v:Int) (r:Bool) (w:u) (p:Nat) (x y:C.St σ) (hP:PI B nr nw cr cw I T w p x) (hr:(r && x.c.May)=ξ) (hw:x.c.Waits=ξ)
 (hF:Δ ω 253 #[aB (A ⟨p,0,G⟩)] w λe w'=>e=μ (lG k d s n v)/\PI B nr nw cr cw I T w' p y/\PM B T p x.s y.s w w')
 (hA:∀(W:u) (i j l o q t z:Nat),boxes W i j l o q t z->PI B nr nw cr cw I T W p ⟨y.c,y.s,K.cyc k⟩->Δ ω g #[aB (A ⟨p,0,G⟩),lG k d s n v] W (AP B nr nw cr cw I T W p ⟨y.c,y.s,K.cyc k⟩ (C.act m ⟨y.c,y.s,K.cyc k⟩ k d s n v))) :
 Δ ω 203 #[aB (A ⟨p,0,G⟩),ν r] w (AP B nr nw cr cw I T w p x (C.act m ⟨y.c,y.s,K.cyc k⟩ k d s n v)):=by
 obtain⟨_,_,_,_,_,V,X,_,_,_⟩:=hP.cells;have hlt:=hP.lt;have HP:=hid hP;have L:=hid R;have HF:=hid hF;have HA:=hid hA;have hk32:(k:Int)<32:=by omega
 have hk0:(0:Int)<=k:=by omega
 rw[hw] at X;clear hP R hF hw hA;cases r
 case' true =>
  simp only[oe] at hr;rw[hr] at V;clear hr
 all_goals
  go_enter func203,ntmps203;go_wp2_with (first
   | (go_at_call 253;refine HF.out.mono ?_;rintro e w1 ⟨rfl,E,Z⟩;have hl1:=E.lt;have f1:=E.frozen 17;obtain⟨_,_,_,_,_,_,_,_,_,e17⟩:=E.cells;have M:=hid E;clear E)
   | (go_at_call 254;refine(zil k hk U _ (L.out.shapes (M.out.box L.out _).inv)).mono ?_;rintro e w2 ⟨rfl,F⟩;obtain⟨k2,g2⟩:=cj F;have H:=(M.out.box L.out _).kept L.out F;have hl2:=H.lt;have f2:=H.frozen 17;obtain⟨_,_,_,_,_,_,_,_,_,h17⟩:=H.cells;have z2:w1.heap.size<w2.heap.size:=by have:=F.size;simp at this;omega
      have o0:Hid (∀ θ,p≠w1.heap.size->(w2.setCell ⟨p,17,G⟩ θ).cell? ⟨w1.heap.size,0,G⟩=A (J Q k)):=λθ h=>(ap _ _ _ _ (by simp)).trans ((k2 _ 0 (by simp)).trans (ly _ _ _ _ D))
      have o1:Hid (∀ θ,p≠w1.heap.size->(w2.setCell ⟨p,17,G⟩ θ).cell? ⟨w1.heap.size,1,G⟩=A (J Q d)):=λθ h=>(ap _ _ _ _ (by simp)).trans ((k2 _ 1 (by simp)).trans (ly _ _ _ _ D))
      have o2:Hid (∀ θ,p≠w1.heap.size->(w2.setCell ⟨p,17,G⟩ θ).cell? ⟨w1.heap.size,2,G⟩=A (J Q s)):=λθ h=>(ap _ _ _ _ (by simp)).trans ((k2 _ 2 (by simp)).trans (ly _ _ _ _ D))
      have o3:Hid (∀ θ,p≠w1.heap.size->(w2.setCell ⟨p,17,G⟩ θ).cell? ⟨w1.heap.size,3,G⟩=A (J Q n)):=λθ h=>(ap _ _ _ _ (by simp)).trans ((k2 _ 3 (by simp)).trans (ly _ _ _ _ D))
      have o4:Hid (∀ θ,p≠w1.heap.size->(w2.setCell ⟨p,17,G⟩ θ).cell? ⟨w1.heap.size,4,G⟩=A (J Q v)):=λθ h=>(ap _ _ _ _ (by simp)).trans ((k2 _ 4 (by simp)).trans (ly _ _ _ _ D))
      have HY2:=hid (H.putCyc L.out (K.cyc k));have b:p≠w1.heap.size:=by omega
      clear H))
  refine cutW (λW=>PI B nr nw cr cw I T W p ⟨y.c,y.s,K.cyc k⟩/\PM B T p x.s y.s w W/\w1.heap.size<W.heap.size/\W.cell? ⟨w1.heap.size,0,G⟩=A (J Q k)/\W.cell? ⟨w1.heap.size,1,G⟩=A (J Q d)/\W.cell? ⟨w1.heap.size,2,G⟩=A (J Q s)/\W.cell? ⟨w1.heap.size,3,G⟩=A (J Q n)/\W.cell? ⟨w1.heap.size,4,G⟩=A (J Q v)) ⟨HY2.out,((Z.alloc (HP.out.hB L.out) _).kept ((M.out.box L.out _).hB L.out) F).set HP.out.big 17 _,by rw[wo];exact z2,o0.out _ b,o1.out _ b,o2.out _ b,o3.out _ b,o4.out _ b⟩ ?_;clear e17 f1 f2 h17 k2 g2 hl2 hl1 z2 F Z HY2 M V X b;rintro W ⟨hW,hmW,f,q0,q1,q2,q3,q4⟩;have HW:=hid hW;have HMW:=hid hmW;clear hW hmW;go_region_held3 (λw'=>w'.cell? ⟨w1.heap.size,0,G⟩=A (J Q k))
   ((go_keep;done))
   ((go_at_call 255;refine(zpW _).mono ?_;rintro e w3 ⟨i,j,l,o,q,t,z,rfl,hX,N⟩;obtain⟨P,g3⟩:=cj N;have z3:=Θ f N.size;have r0:=(P _ 0 f).trans q0;have r1:=(P _ 1 f).trans q1;have r2:=(P _ 2 f).trans q2;have r3:=(P _ 3 f).trans q3;have r4:=(P _ 4 f).trans q4;have HX:=hid hX;clear hX P g3))
  go_wp2_with (refine(HA.out _ i j l o q t z HX.out ?_).mono ?_;(exact HW.out.kept L.out (bw (aR W).drew N));rintro e w4 ⟨rfl,hP4,hm4⟩)
  go_end0;exact⟨D,hP4,(HMW.out.kept (HW.out.hB L.out) (bw (aR W).drew N)).trans hm4⟩
theorem ye(R:RS m B nr nw cr cw I T)(k:Nat)(hk:k<32)(V:k≠30)(g:Nat)(hcf:∀(a:Array π) (w:u),(callFunc g a).run ω w=.ok (.enter g a) w)(q:Nat->Nat->Nat->Nat->Nat->Nat->Nat->Nat)
 (hi:∀(b f i j l o t:Nat) (w:u),(aK 325 (ac (eQ b f i j l o t)) (J Q k)).run ω w=.ok (fv g #[aB (A ⟨q b f i j l o t,0,G⟩)]) w)
 (d s:Nat) (n v:Int) (r:Bool) (w:u) (p:Nat) (x y:C.St σ) (hP:PI B nr nw cr cw I T w p x) (hr:(r && x.c.May)=ξ) (hw:x.c.Waits=ξ)
 (hF:Δ ω 253 #[aB (A ⟨p,0,G⟩)] w λe w'=>e=μ (lG k d s n v)/\PI B nr nw cr cw I T w' p y/\PM B T p x.s y.s w w')
 (hA:∀(W:u) (b f i j l o t:Nat),boxes W b f i j l o t->PI B nr nw cr cw I T W p ⟨y.c,y.s,K.cyc k⟩->Δ ω g #[aB (A ⟨p,0,G⟩),lG k d s n v,aB (A ⟨q b f i j l o t,0,G⟩)] W (AP B nr nw cr cw I T W p ⟨y.c,y.s,K.cyc k⟩ (C.act m ⟨y.c,y.s,K.cyc k⟩ k d s n v))) :
 Δ ω 203 #[aB (A ⟨p,0,G⟩),ν r] w (AP B nr nw cr cw I T w p x (C.act m ⟨y.c,y.s,K.cyc k⟩ k d s n v)):=by
 obtain⟨_,_,_,_,_,X,Z,_,_,_⟩:=hP.cells;have hlt:=hP.lt;have HP:=hid hP;have M:=hid R;have HF:=hid hF;have HA:=hid hA;have hk32:(k:Int)<32:=by omega
 have hk0:(0:Int)<=k:=by omega
 rw[hw] at Z;clear hP R hF hw hA;cases r
 case' true =>
  simp only[oe] at hr;rw[hr] at X;clear hr
 all_goals
  go_enter func203,ntmps203;go_wp2_with (first
   | (go_at_call 253;refine HF.out.mono ?_;rintro e w1 ⟨rfl,F,hm1⟩;have hl1:=F.lt;have f1:=F.frozen 17;obtain⟨_,_,_,_,_,_,_,_,_,e17⟩:=F.cells;have N:=hid F;clear F)
   | (go_at_call 254;refine(zil k hk V _ (M.out.shapes (N.out.box M.out _).inv)).mono ?_;rintro e w2 ⟨rfl,H⟩;obtain⟨k2,g2⟩:=cj H;have L:=(N.out.box M.out _).kept M.out H;have hl2:=L.lt;have f2:=L.frozen 17;obtain⟨_,_,_,_,_,_,_,_,_,h17⟩:=L.cells;have z2:w1.heap.size<w2.heap.size:=by have:=H.size;simp at this;omega
      have o0:Hid (∀ θ,p≠w1.heap.size->(w2.setCell ⟨p,17,G⟩ θ).cell? ⟨w1.heap.size,0,G⟩=A (J Q k)):=λθ h=>(ap _ _ _ _ (by simp)).trans ((k2 _ 0 (by simp)).trans (ly _ _ _ _ D))
      have o1:Hid (∀ θ,p≠w1.heap.size->(w2.setCell ⟨p,17,G⟩ θ).cell? ⟨w1.heap.size,1,G⟩=A (J Q d)):=λθ h=>(ap _ _ _ _ (by simp)).trans ((k2 _ 1 (by simp)).trans (ly _ _ _ _ D))
      have o2:Hid (∀ θ,p≠w1.heap.size->(w2.setCell ⟨p,17,G⟩ θ).cell? ⟨w1.heap.size,2,G⟩=A (J Q s)):=λθ h=>(ap _ _ _ _ (by simp)).trans ((k2 _ 2 (by simp)).trans (ly _ _ _ _ D))
      have o3:Hid (∀ θ,p≠w1.heap.size->(w2.setCell ⟨p,17,G⟩ θ).cell? ⟨w1.heap.size,3,G⟩=A (J Q n)):=λθ h=>(ap _ _ _ _ (by simp)).trans ((k2 _ 3 (by simp)).trans (ly _ _ _ _ D))
      have o4:Hid (∀ θ,p≠w1.heap.size->(w2.setCell ⟨p,17,G⟩ θ).cell? ⟨w1.heap.size,4,G⟩=A (J Q v)):=λθ h=>(ap _ _ _ _ (by simp)).trans ((k2 _ 4 (by simp)).trans (ly _ _ _ _ D))
      have HY2:=hid (L.putCyc M.out (K.cyc k));have z:p≠w1.heap.size:=by omega
      clear L))
  refine cutW (λW=>PI B nr nw cr cw I T W p ⟨y.c,y.s,K.cyc k⟩/\PM B T p x.s y.s w W/\w1.heap.size<W.heap.size/\W.cell? ⟨w1.heap.size,0,G⟩=A (J Q k)/\W.cell? ⟨w1.heap.size,1,G⟩=A (J Q d)/\W.cell? ⟨w1.heap.size,2,G⟩=A (J Q s)/\W.cell? ⟨w1.heap.size,3,G⟩=A (J Q n)/\W.cell? ⟨w1.heap.size,4,G⟩=A (J Q v)) ⟨HY2.out,((hm1.alloc (HP.out.hB M.out) _).kept ((N.out.box M.out _).hB M.out) H).set HP.out.big 17 _,by rw[wo];exact z2,o0.out _ z,o1.out _ z,o2.out _ z,o3.out _ z,o4.out _ z⟩ ?_;clear e17 f1 f2 h17 k2 g2 hl2 hl1 z2 H hm1 HY2 N X Z z;rintro W ⟨hW,hmW,E,q0,q1,q2,q3,q4⟩;have HW:=hid hW;have HMW:=hid hmW;clear hW hmW;go_region_held3 (λw'=>w'.cell? ⟨w1.heap.size,0,G⟩=A (J Q k))
   ((go_keep;done))
   ((go_at_call 255;refine(zpW _).mono ?_;rintro e w3 ⟨b,f,i,j,l,o,t,rfl,hX,P⟩;obtain⟨U,g3⟩:=cj P;have z3:=Θ E P.size;have r0:=(U _ 0 E).trans q0;have r1:=(U _ 1 E).trans q1;have r2:=(U _ 2 E).trans q2;have r3:=(U _ 3 E).trans q3;have r4:=(U _ 4 E).trans q4;have HX:=hid hX;clear hX U g3))
  go_wp2_with (refine(HA.out _ b f i j l o t HX.out ?_).mono ?_;(exact HW.out.kept M.out (bw (aR W).drew P));rintro e w4 ⟨rfl,hP4,hm4⟩)
  go_end0;exact⟨D,hP4,(HMW.out.kept (HW.out.hB M.out) (bw (aR W).drew P)).trans hm4⟩
end
theorem qF(a:Int)(h:0<=a/\a<=65535):O.rk a<32/\O.rk a≠30/\O.rOp a=(O.rk a:Int):=by
 unfold O.rk O.rOp;split <;> omega
theorem xG(a:Int):0<=O.rD a/\O.rD a<=7:=by unfold O.rD;split <;> omega
theorem xH(a:Int):0<=O.rS a/\O.rS a<=7:=by unfold O.rS;split <;> omega
theorem xI(a:Int):-16<=O.rN a/\O.rN a<=15:=by
 unfold O.rN O.nOf;split
 ·split
  ·omega
  ·split <;> omega
 ·omega
theorem Bc(a:Int)(h:O.rk a=12 \/ O.rk a=13):0<=O.rN a:=by
 unfold O.rN O.nOf;split
 ·first|omega|(rw[am h];omega)
 ·omega
theorem B7(a b:Int)(h:0<=b/\b<=65535):0<=O.rW a b/\O.rW a b<=65535:=by unfold O.rW;split <;> omega
section
variable {σ : Type} {m : C.Mem σ} {B nr nw : Nat} {cr cw : Array π × Array π} {I : u -> σ -> Prop} {T : σ -> Nat -> Prop}
theorem zjB(R:RS m B nr nw cr cw I T)(c:C.Cpu)(s:σ):0<=C.word1 m c s/\C.word1 m c s<=65535:=R.word _ _
theorem zwe(R:RS m B nr nw cr cw I T)(c:C.Cpu)(s:σ):0<=C.word2 m c s/\C.word2 m c s<=65535:=by
 unfold C.word2;split
 ·exact R.word _ _
 ·omega
theorem RS.fbehind(R:RS m B nr nw cr cw I T)(c:C.Cpu)(s:σ):m.fuel s<=m.fuel (C.behind m c s).s:=by
 unfold C.behind;simp only;split
 ·exact ax (R.frdw _ _) (R.frdw _ _)
 ·exact R.frdw _ _
theorem zrg(R:RS m B nr nw cr cw I T)(r:Bool)(w:u)(p:Nat)(x:C.St σ)(V:4<=m.fuel x.s)(F:PI B nr nw cr cw I T w p x)(H:(r && x.c.May)=ξ)(L:x.c.Waits=ξ):Δ ω 203 #[aB (A ⟨p,0,G⟩),ν r] w (AP B nr nw cr cw I T w p x (C.order m x.c x.s)):=by
 have E:=zs6 R w p x F;have b1:=zjB R x.c x.s;have b2:=zwe R x.c x.s;unfold C.order;generalize C.word1 m x.c x.s=a at E b1 ⊢;generalize C.word2 m x.c x.s=b at E b2 ⊢;have M:4<=m.fuel (C.behind m x.c x.s).s:=ax V (R.fbehind _ _);generalize C.behind m x.c x.s=y at E M ⊢;obtain⟨h32,h30,P⟩:=qF a b1;have Z:=xG a;have hs:=xH a;have N:=xI a;have z:=B7 a b b2;have U:=Bc a;unfold kD at E;rw[P] at E;generalize O.rk a=k at *;generalize O.rN a=n at *;generalize O.rW a b=v at *;obtain⟨d,X⟩:=aA Z.1;obtain⟨s,es⟩:=aA hs.1;rw[X,es] at E;rw[X] at Z;rw[es] at hs;rw[X,es];have q:d<8:=by omega
 have t:s<8:=by omega
 clear P;have hk:k=0 \/ k=1 \/ k=2 \/ k=3 \/ k=4 \/ k=5 \/ k=6 \/ k=7 \/ k=8 \/ k=9 \/ k=10 \/ k=11 \/ k=12 \/ k=13 \/ k=14 \/ k=15 \/ k=16 \/ k=17 \/ k=18 \/ k=19 \/ k=20 \/ k=21 \/ k=22 \/ k=23 \/ k=24 \/ k=25 \/ k=26 \/ k=27 \/ k=28 \/ k=29 \/ k=31:=by omega
 rcases hk with rfl|rfl|rfl|rfl|rfl|rfl|rfl|rfl|rfl|rfl|rfl|rfl|rfl|rfl|rfl|rfl|rfl|rfl|rfl|rfl|rfl|rfl|rfl|rfl|rfl|rfl|rfl|rfl|rfl|rfl|rfl
 ·exact pG R 0 (by decide) (by decide) 289 (λ_ _=>D) zv4 d s n v r w p x ⟨y.c,y.s,x.n⟩ F H L E (λW e f g i j l o hB h=>BX R d s n v q t z.1 z.2 W p _ h)
 ·exact pG R 1 (by decide) (by decide) 290 (λ_ _=>D) zv5 d s n v r w p x ⟨y.c,y.s,x.n⟩ F H L E (λW e f g i j l o hB h=>BY R d s n v q t z.1 z.2 W p _ h)
 ·exact pG R 2 (by decide) (by decide) 291 (λ_ _=>D) zv6 d s n v r w p x ⟨y.c,y.s,x.n⟩ F H L E (λW e f g i j l o hB h=>BZ R d s n v q t z.1 z.2 W p _ h)
 ·exact pG R 3 (by decide) (by decide) 292 (λ_ _=>D) zv7 d s n v r w p x ⟨y.c,y.s,x.n⟩ F H L E (λW e f g i j l o hB h=>B0 R d s n v q t z.1 z.2 W p _ h)
 ·exact pG R 4 (by decide) (by decide) 294 (λ_ _=>D) zv8 d s n v r w p x ⟨y.c,y.s,x.n⟩ F H L E (λW e f g i j l o hB h=>B5 R d s n v q t z.1 z.2 W p _ (ax (by decide) M) h)
 ·exact pG R 5 (by decide) (by decide) 296 (λ_ _=>D) zv9 d s n v r w p x ⟨y.c,y.s,x.n⟩ F H L E (λW e f g i j l o hB h=>B4 R d s n v q t z.1 z.2 W p _ h)
 ·exact pG R 6 (by decide) (by decide) 297 (λ_ _=>D) zwa d s n v r w p x ⟨y.c,y.s,x.n⟩ F H L E (λW e f g i j l o hB h=>B6 R d s n v q t z.1 z.2 W p _ (ax (by decide) M) h)
 ·exact pG R 7 (by decide) (by decide) 299 (λ_ _=>D) zwb d s n v r w p x ⟨y.c,y.s,x.n⟩ F H L E (λW e f g i j l o hB h=>zl R 7 (by unfold pB;omega) d s n v q t N W p _ h)
 ·exact pG R 8 (by decide) (by decide) 299 (λ_ _=>D) zwc d s n v r w p x ⟨y.c,y.s,x.n⟩ F H L E (λW e f g i j l o hB h=>zl R 8 (by unfold pB;omega) d s n v q t N W p _ h)
 ·exact pG R 9 (by decide) (by decide) 299 (λ_ _=>D) zwd d s n v r w p x ⟨y.c,y.s,x.n⟩ F H L E (λW e f g i j l o hB h=>zl R 9 (by unfold pB;omega) d s n v q t N W p _ h)
 ·exact pG R 10 (by decide) (by decide) 299 (λ_ _=>D) zs7 d s n v r w p x ⟨y.c,y.s,x.n⟩ F H L E (λW e f g i j l o hB h=>zl R 10 (by unfold pB;omega) d s n v q t N W p _ h)
 ·exact pG R 11 (by decide) (by decide) 299 (λ_ _=>D) zs8 d s n v r w p x ⟨y.c,y.s,x.n⟩ F H L E (λW e f g i j l o hB h=>zl R 11 (by unfold pB;omega) d s n v q t N W p _ h)
 ·exact ye R 12 (by decide) (by decide) 353 (λ_ _=>D) (λe f g i j l o=>e) zs9 d s n v r w p x ⟨y.c,y.s,x.n⟩ F H L E (λW e f g i j l o hB h=>zAQ R d s n v q t (U (by decide)) N.2 e W p _ h hB.1)
 ·exact ye R 13 (by decide) (by decide) 353 (λ_ _=>D) (λe f g i j l o=>f) zta d s n v r w p x ⟨y.c,y.s,x.n⟩ F H L E (λW e f g i j l o hB h=>zAR R d s n v q t (U (by decide)) N.2 f W p _ h hB.2.1)
 ·exact pG R 14 (by decide) (by decide) 303 (λ_ _=>D) ztb d s n v r w p x ⟨y.c,y.s,x.n⟩ F H L E (λW e f g i j l o hB h=>zAF R d s n v q t N W p _ h)
 ·exact pG R 15 (by decide) (by decide) 305 (λ_ _=>D) ztc d s n v r w p x ⟨y.c,y.s,x.n⟩ F H L E (λW e f g i j l o hB h=>zAG R d s n v q t N W p _ h)
 ·exact ye R 16 (by decide) (by decide) 357 (λ_ _=>D) (λe f g i j l o=>g) ztd d s n v r w p x ⟨y.c,y.s,x.n⟩ F H L E (λW e f g i j l o hB h=>zyV R d s n v z.1 z.2 g W p _ (show (0:Int)<=K.cyc 16 by decide +kernel) (show K.cyc 16<=100 by decide +kernel) h hB.2.2.1)
 ·exact ye R 17 (by decide) (by decide) 357 (λ_ _=>D) (λe f g i j l o=>i) zte d s n v r w p x ⟨y.c,y.s,x.n⟩ F H L E (λW e f g i j l o hB h=>zyW R d s n v z.1 z.2 i W p _ (show (0:Int)<=K.cyc 17 by decide +kernel) (show K.cyc 17<=100 by decide +kernel) h hB.2.2.2.1)
 ·exact ye R 18 (by decide) (by decide) 357 (λ_ _=>D) (λe f g i j l o=>j) ztf d s n v r w p x ⟨y.c,y.s,x.n⟩ F H L E (λW e f g i j l o hB h=>zyX R d s n v z.1 z.2 j W p _ (show (0:Int)<=K.cyc 18 by decide +kernel) (show K.cyc 18<=100 by decide +kernel) h hB.2.2.2.2.1)
 ·exact ye R 19 (by decide) (by decide) 357 (λ_ _=>D) (λe f g i j l o=>l) ztg d s n v r w p x ⟨y.c,y.s,x.n⟩ F H L E (λW e f g i j l o hB h=>zyY R d s n v z.1 z.2 l W p _ (show (0:Int)<=K.cyc 19 by decide +kernel) (show K.cyc 19<=100 by decide +kernel) h hB.2.2.2.2.2.1)
 ·exact pG R 20 (by decide) (by decide) 311 (λ_ _=>D) zth d s n v r w p x ⟨y.c,y.s,x.n⟩ F H L E (λW e f g i j l o hB h=>zAH R d s n v q t z.1 z.2 W p _ (ax (by decide) M) h)
 ·exact pG R 21 (by decide) (by decide) 312 (λ_ _=>D) zti d s n v r w p x ⟨y.c,y.s,x.n⟩ F H L E (λW e f g i j l o hB h=>zAI R d s n v q t z.1 z.2 W p _ h)
 ·exact pG R 22 (by decide) (by decide) 314 (λ_ _=>D) ztj d s n v r w p x ⟨y.c,y.s,x.n⟩ F H L E (λW e f g i j l o hB h=>zAJ R d s n v q t z.1 z.2 W p _ (ax (by decide) M) h)
 ·exact pG R 23 (by decide) (by decide) 315 (λ_ _=>D) ztk d s n v r w p x ⟨y.c,y.s,x.n⟩ F H L E (λW e f g i j l o hB h=>zAK R d s n v q t z.1 z.2 W p _ h)
 ·exact pG R 24 (by decide) (by decide) 316 (λ_ _=>D) ztl d s n v r w p x ⟨y.c,y.s,x.n⟩ F H L E (λW e f g i j l o hB h=>zAL R d s n v q t z.1 z.2 W p _ h)
 ·exact pG R 25 (by decide) (by decide) 317 (λ_ _=>D) ztm d s n v r w p x ⟨y.c,y.s,x.n⟩ F H L E (λW e f g i j l o hB h=>zAM R d s n v q t z.1 z.2 W p _ h)
 ·exact pG R 26 (by decide) (by decide) 318 (λ_ _=>D) ztn d s n v r w p x ⟨y.c,y.s,x.n⟩ F H L E (λW e f g i j l o hB h=>zAO R d s n v q t z.1 z.2 W p _ h)
 ·exact pG R 27 (by decide) (by decide) 320 (λ_ _=>D) zto d s n v r w p x ⟨y.c,y.s,x.n⟩ F H L E (λW e f g i j l o hB h=>zAN R d s n v q t z.1 z.2 W p _ h)
 ·exact pG R 28 (by decide) (by decide) 299 (λ_ _=>D) ztp d s n v r w p x ⟨y.c,y.s,x.n⟩ F H L E (λW e f g i j l o hB h=>zl R 28 (by unfold pB;omega) d s n v q t N W p _ h)
 ·exact ye R 29 (by decide) (by decide) 357 (λ_ _=>D) (λe f g i j l o=>o) ztq d s n v r w p x ⟨y.c,y.s,x.n⟩ F H L E (λW e f g i j l o hB h=>zyZ R d s n v z.1 z.2 o W p _ (show (0:Int)<=K.cyc 29 by decide +kernel) (show K.cyc 29<=100 by decide +kernel) h hB.2.2.2.2.2.2)
 ·exact pG R 31 (by decide) (by decide) 322 (λ_ _=>D) ztr d s n v r w p x ⟨y.c,y.s,x.n⟩ F H L E (λW e f g i j l o hB h=>zAP R d s n v q t z.1 z.2 W p _ (ax (by decide) M) h)
theorem zrh(R:RS m B nr nw cr cw I T)(w:u)(p:Nat)(x:C.St σ)(b:4<=m.fuel x.s)(d:PI B nr nw cr cw I T w p x)(j:x.c.May=Γ):Δ ω 203 #[aB (A ⟨p,0,G⟩),ν Γ] w (AP B nr nw cr cw I T w p x { C.leave m x 2 with n:=6 }):=by
 obtain⟨_,_,_,_,_,f,o,_,_,_⟩:=d.cells;have q:=d.lt;rw[j] at f;have k:=hid d;have l:=hid R;have g:=hid b;clear d R j b;go_enter func203,ntmps203;go_wp2_with (go_at_call 252;refine(zls l.out 2 (by omega) (by omega) _ p x g.out k.out).mono ?_;rintro e w1 ⟨rfl,a,h⟩;have r:=a.lt;have f1:=a.frozen 17;obtain⟨_,_,_,_,_,_,_,_,_,t⟩:=a.cells;have i:=hid a;clear a)
 go_end0;exact⟨D,i.out.putCyc l.out 6,PM.set h k.out.big 17 _⟩
theorem zts(R:RS m B nr nw cr cw I T)(r:Bool)(w:u)(p:Nat)(x:C.St σ)(a:PI B nr nw cr cw I T w p x)(d:(r && x.c.May)=ξ)(g:x.c.Waits=Γ):Δ ω 203 #[aB (A ⟨p,0,G⟩),ν r] w (AP B nr nw cr cw I T w p x ⟨x.c,x.s,1⟩):=by
 obtain⟨_,_,_,_,_,e,f,_,_,i⟩:=a.cells;have j:=a.lt;have k:=a.frozen 17;rw[g] at f;have b:=hid a;have h:=hid R;clear a R g;cases r
 ·go_enter func203,ntmps203
  go_wp2;go_end0;exact⟨D,b.out.putCyc h.out 1,(PM.refl B T p x.s w).set b.out.big 17 _⟩
 ·simp only[oe] at d
  rw[d] at e;clear d;go_enter func203,ntmps203;go_wp2;go_end0;exact⟨D,b.out.putCyc h.out 1,(PM.refl B T p x.s w).set b.out.big 17 _⟩
theorem zwf(R:RS m B nr nw cr cw I T)(r:Bool)(w:u)(p:Nat)(c:C.Cpu)(s:σ)(a:4<=m.fuel s)(b:PI B nr nw cr cw I T w p ⟨c,s,0⟩):Δ ω 203 #[aB (A ⟨p,0,G⟩),ν r] w (AP B nr nw cr cw I T w p ⟨c,s,0⟩ (C.step m c s r)):=by
 unfold C.step;cases d:r && c.May
 ·rw[ae (by simp)]
  cases e:c.Waits
  ·rw[ae (by simp)];exact zrg R r w p ⟨c,s,0⟩ a b d e
  ·rw[am D];exact zts R r w p ⟨c,s,0⟩ b d e
 ·rw[am D]
  obtain⟨h1,h2⟩:=Bool.and_eq_true_iff.1 d;subst h1;exact zrh R w p ⟨c,s,0⟩ a b h2
end
end Go.Proofs.YthghjlinhokimaaGreatDoor
