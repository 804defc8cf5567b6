/-
  Parts of a proof, joined.
-/
import Derived.Test.YtbennamieealbaaGreatDoorZg26
import Derived.Test.YtbennamieealbaaGreatDoorZg07
import Derived.Deep.RegionWith
import Derived.Test.YtbennamieealbaaGreatDoorZg12
import Derived.Deep.DeepCutAuto
set_option linter.unusedVariables false
set_option maxRecDepth 100000
set_option maxHeartbeats 1600000
namespace Go.Proofs.YtbennamieealbaaGreatDoor
open Go.ChangeShapes Go.WideShapes Go.ChangeAt Go.RowKit
section
variable {σ : Type} {m : C.Mem σ} {B nr nw : Nat} {cr cw : Array Value × Array Value} {I : World -> σ -> Prop} {T : σ -> Nat -> Prop}
theorem zhP (c:C.Cpu) (hc:c.R.length=8) (fr fw:Value) (n:Int):(#[.int .u16 (c.r 0),.int .u16 (c.r 1),.int .u16 (c.r 2),.int .u16 (c.r 3),.int .u16 (c.r 4),.int .u16 (c.r 5),.int .u16 (c.r 6),.int .u16 (c.r 7),.int .u16 c.PC,.bool c.Z,.bool c.N,.bool c.C,.bool c.V,.bool c.May,.bool c.Waits,fr,fw,.int .i64 n]:Array Value)=pcells c fr fw n:=by
 obtain ⟨a0,a1,a2,a3,a4,a5,a6,a7,h⟩:=reg8 hc
 unfold pcells cpuCells C.Cpu.r
 rw [h]
 rfl
theorem PI.new (R:RS m B nr nw cr cw I T) {W:World} {c:C.Cpu} {s:σ} (hI:I W s) (hc:c.ok) {cs:Array Value} (e:cs=pcells c (fw nr cr) (fw nw cw) 0) {p:Nat} (hp:p=W.heap.size):PI B nr nw cr cw I T (W.alloc (.cells cs 275)) p ⟨c,s,0⟩:=by
 subst hp
 subst e
 exact ⟨R.kept hI (stA (st0 W) _),R.out hI (Nat.le_refl _),R.big hI,heap_alloc_new W _,hc⟩
theorem zcq (b:Nat):∀ (vs:List Value) (o:Nat) (w:World) (k:Nat),k≠b->(w.setCells b o vs).heap[k]? = w.heap[k]?
 | [],o,w,k,h=>rfl
 | v::vs,o,w,k,h=>(zcq b vs (o+1) _ k h).trans (Below.heap_setCell _ _ _ _ h)
theorem setCells_size (b:Nat):∀ (vs:List Value) (o:Nat) (w:World),(w.setCells b o vs).heap.size=w.heap.size
 | [],o,w=>rfl
 | v::vs,o,w=>(setCells_size b vs (o+1) _).trans (zba _ _ _)
theorem cutB {P:Program} {fn:Func} {R:Ending->World->Prop} {e:Exit} {a:Act} {w:World} (K:World->Prop) (h:K w) (k:∀ w',K w'->bodyPost P fn R e a w'):bodyPost P fn R e a w:=k w h
theorem PM.gone {w W w1:World} {p:Nat} {s s':σ} (h:PM B T p s s' W w1) (hb:Below w.heap.size w W) (hB:B<=w.heap.size) (hp:w.heap.size<=p) (ho:¬ Tw T w1 s' p):Mv B (Tw T w s) (Tw T w1 s') w w1 :=
 ⟨(hb.mono hB).trans h.below,λk hk ht=>(h.block k (Nat.lt_of_lt_of_le hk hb.size) (λe=>e.elim (λx=>by omega) (λy=>ht (y.same (hb.block k hk))))).trans (hb.block k hk),λk hk=>by
   rcases h.fresh k (Or.inr hk) with (x|x)|x
   ·subst x;exact absurd hk ho
   ·exact x.low hb
   ·exact Or.inr (Nat.le_trans hb.size x)⟩
abbrev cpuLC (c:C.Cpu):List Value:=[.int .u16 (c.r 0),.int .u16 (c.r 1),.int .u16 (c.r 2),.int .u16 (c.r 3),.int .u16 (c.r 4),.int .u16 (c.r 5),.int .u16 (c.r 6),.int .u16 (c.r 7),.int .u16 c.PC,.bool c.Z,.bool c.N,.bool c.C,.bool c.V,.bool c.May,.bool c.Waits]
theorem zfU (W:World) (q:Nat) (c:C.Cpu):(((((((((((((((W.setCell ⟨q,0,none⟩ (.int .u16 (c.r 0))).setCell ⟨q,1,none⟩ (.int .u16 (c.r 1))).setCell ⟨q,2,none⟩ (.int .u16 (c.r 2))).setCell ⟨q,3,none⟩ (.int .u16 (c.r 3))).setCell ⟨q,4,none⟩ (.int .u16 (c.r 4))).setCell ⟨q,5,none⟩ (.int .u16 (c.r 5))).setCell ⟨q,6,none⟩ (.int .u16 (c.r 6))).setCell ⟨q,7,none⟩ (.int .u16 (c.r 7))).setCell ⟨q,8,none⟩ (.int .u16 c.PC)).setCell ⟨q,9,none⟩ (.bool c.Z)).setCell ⟨q,10,none⟩ (.bool c.N)).setCell ⟨q,11,none⟩ (.bool c.C)).setCell ⟨q,12,none⟩ (.bool c.V)).setCell ⟨q,13,none⟩ (.bool c.May)).setCell ⟨q,14,none⟩ (.bool c.Waits))=W.setCells q 0 (cpuLC c):=by simp only [World.setCells,Nat.zero_add,Nat.reduceAdd]
theorem qz (W:World) (o:Obj) (b i:Nat) (cs:Array Value) {t:TypeId} (h:b=W.heap.size):((W.alloc (.cells cs t)).alloc o).cell? ⟨b,i,none⟩=cs[i]?:=by
 subst h
 rw [World.cell?_alloc_lt _ _ _ (by simp)]
 exact zav _ _ _ _ rfl
theorem qzf (W:World) (o:Obj) (b i:Nat) (cs:Array Value) {t:TypeId} (h:b=W.heap.size):((W.alloc (.cells cs t)).alloc o).frozen? ⟨b,i,none⟩=false:=by
 subst h
 exact (World.frozen?_of_block (w:=W.alloc (.cells cs t)) (heap_alloc_old _ _ (by simp))).trans (Lib.frozen_of_heap (heap_alloc_new W _) i)
theorem drew16 (X:World) (p:Nat) (y:C.St σ) (h:X.cell? ⟨p,0,none⟩=some (.int .u16 (y.c.r 0))/\X.cell? ⟨p,1,none⟩=some (.int .u16 (y.c.r 1))/\X.cell? ⟨p,2,none⟩=some (.int .u16 (y.c.r 2))/\X.cell? ⟨p,3,none⟩=some (.int .u16 (y.c.r 3))/\X.cell? ⟨p,4,none⟩=some (.int .u16 (y.c.r 4))/\X.cell? ⟨p,5,none⟩=some (.int .u16 (y.c.r 5))/\X.cell? ⟨p,6,none⟩=some (.int .u16 (y.c.r 6))/\X.cell? ⟨p,7,none⟩=some (.int .u16 (y.c.r 7))/\X.cell? ⟨p,8,none⟩=some (.int .u16 y.c.PC)/\X.cell? ⟨p,9,none⟩=some (.bool y.c.Z)/\X.cell? ⟨p,10,none⟩=some (.bool y.c.N)/\X.cell? ⟨p,11,none⟩=some (.bool y.c.C)/\X.cell? ⟨p,12,none⟩=some (.bool y.c.V)/\X.cell? ⟨p,13,none⟩=some (.bool y.c.May)/\X.cell? ⟨p,14,none⟩=some (.bool y.c.Waits)/\X.cell? ⟨p,17,none⟩=some (.int .i64 y.n)):X.drew.cell? ⟨p,0,none⟩=some (.int .u16 (y.c.r 0))/\X.drew.cell? ⟨p,1,none⟩=some (.int .u16 (y.c.r 1))/\X.drew.cell? ⟨p,2,none⟩=some (.int .u16 (y.c.r 2))/\X.drew.cell? ⟨p,3,none⟩=some (.int .u16 (y.c.r 3))/\X.drew.cell? ⟨p,4,none⟩=some (.int .u16 (y.c.r 4))/\X.drew.cell? ⟨p,5,none⟩=some (.int .u16 (y.c.r 5))/\X.drew.cell? ⟨p,6,none⟩=some (.int .u16 (y.c.r 6))/\X.drew.cell? ⟨p,7,none⟩=some (.int .u16 (y.c.r 7))/\X.drew.cell? ⟨p,8,none⟩=some (.int .u16 y.c.PC)/\X.drew.cell? ⟨p,9,none⟩=some (.bool y.c.Z)/\X.drew.cell? ⟨p,10,none⟩=some (.bool y.c.N)/\X.drew.cell? ⟨p,11,none⟩=some (.bool y.c.C)/\X.drew.cell? ⟨p,12,none⟩=some (.bool y.c.V)/\X.drew.cell? ⟨p,13,none⟩=some (.bool y.c.May)/\X.drew.cell? ⟨p,14,none⟩=some (.bool y.c.Waits)/\X.drew.cell? ⟨p,17,none⟩=some (.int .i64 y.n):=h
theorem zbb:(Tryz.prog.info? 25).map (·.size)=some 15:=by kernel_rfl
theorem zlD (W:World) (q:Nat) (c:C.Cpu) (h:W.rangeAt q 0 (cpuLC c)):(loadVar 25 ⟨q,0,none⟩).run Tryz.prog W = .ok (cpuV c) W :=
 run_loadVar_mid W q 0 25 (cpuLC c) _ h Tryz.underlying25 rfl zbb
theorem endK (R:RS m B nr nw cr cw I T) {w w1:World} {s s':σ} {q:Nat} (L:List Value) (hI:I w1 s') (h0:Mv B (Tw T w s) (Tw T w1 s') w w1) (hT:¬ Tw T w1 s' q) (hq:w.heap.size<=q) (hth:w1.there q 0 L.length) (hB:B<=w.heap.size) :
 I (w1.setCells q 0 L).drew s'/\Mv B (Tw T w s) (Tw T (w1.setCells q 0 L).drew s') w (w1.setCells q 0 L).drew/\(w1.setCells q 0 L).drew.rangeAt q 0 L:=by
 have hs:=setCells_size q L 0 w1
 have hh:=zcq q L 0 w1
 have hb:=below_setCells (n:=B) (a:=w) (b:=q) (by omega) L 0 w1 h0.below
 have hr:=World.rangeAt_setCells_same w1 q 0 L hth
 have hts:∀ k,Tw T (w1.setCells q 0 L) s' k->Tw T w1 s' k:=λk=>Tw.sets
 generalize w1.setCells q 0 L=X at *
 exact ⟨R.keep (w':=X.drew) hI (Nat.le_of_eq hs.symm) (λk hk=>hh k (λe=>hT (e ▸ hk))),⟨hb.drew,λk hk ht=>(hh k (by omega)).trans (h0.block k hk ht),λk hk=>h0.fresh k (hts k hk)⟩,hr⟩
theorem Tw.third {w:World} {s:σ} {o1 o2 o4:Obj} {cs:Array Value} {t:TypeId} (h:¬ T s (w.heap.size+1+1)) (ht:t≠66):¬ Tw T ((((w.alloc o1).alloc o2).alloc (.cells cs t)).alloc o4) s (w.heap.size+1+1) :=
 Tw.of h (by
  have e:=heap_alloc_new ((w.alloc o1).alloc o2) (.cells cs t)
  have z:((w.alloc o1).alloc o2).heap.size=w.heap.size+1+1:=by simp
  rw [z] at e
  exact (Below.heap_alloc _ _ _ (by simp)).trans e) ht
theorem zmE (R:RS m B nr nw cr cw I T) (r:Bool) (w:World) (c:C.Cpu) (s:σ) (hc:c.ok) (hfu:4<=m.fuel s) (hI:I w s) :
 Calls Tryz.prog 112 #[cpuV c,.agg #[fw nr cr,fw nw cw],.bool r] w λe w'=>e = .returned (.tuple #[cpuV (C.step m c s r).c,.int .i64 (C.step m c s r).n])/\I w' (C.step m c s r).s/\Mv B (Tw T w s) (Tw T w' (C.step m c s r).s) w w'/\(C.step m c s r).c.ok:=by
 have HR:=hid R
 have HI:=hid hI
 have HC:=hid hc
 have HS:=hid (λW p h=>zlC (m:=m) R r W p c s hfu h)
 clear hI R hc
 generalize C.step m c s r=y at HS ⊢
 go_enter Tryz.func112,Tryz.ntmps112
 go_wp2_with (go_at_call 193;refine (HS.out _ _ ?_).mono ?_;(exact PI.new HR.out (HR.out.kept HI.out (stA (stA (stA (st0 w) _) _) _)) HC.out (zhP c HC.out.1 _ _ _) (by simp));rintro e w1 ⟨rfl,hP1,hm1⟩)
 obtain ⟨d8,d9,d10,d11,d12,d13,d14,_,_,d17⟩:=hP1.cells
 obtain ⟨d0,d1,d2,d3,d4,d5,d6,d7⟩:=hP1.regs
 have dl:=hP1.lt
 have hq:=λo=>PM.cell hm1 (k:=w.heap.size+1+1) (by simp) (by omega) (Tw.third (HR.out.out HI.out (by omega)) (by decide)) o
 have hqf:=λo=>PM.froz hm1 (k:=w.heap.size+1+1) (by simp) (by omega) (Tw.third (HR.out.out HI.out (by omega)) (by decide)) o
 have hql:w.heap.size+1+1<w1.heap.size:=by omega
 have HY1:=hid hP1
 have HM1:=hid hm1
 clear hP1 hm1
 have hrg:w1.rangeAt (w.heap.size+1+1+1) 0 (cpuLC y.c):=λj v hj=>by
  have hj':j<15:=(List.getElem?_eq_some_iff.1 hj).1
  have hc:j=0 \/ j=1 \/ j=2 \/ j=3 \/ j=4 \/ j=5 \/ j=6 \/ j=7 \/ j=8 \/ j=9 \/ j=10 \/ j=11 \/ j=12 \/ j=13 \/ j=14:=by omega
  rcases hc with rfl|rfl|rfl|rfl|rfl|rfl|rfl|rfl|rfl|rfl|rfl|rfl|rfl|rfl|rfl <;> cases hj <;> assumption
 have hth:w1.there (w.heap.size+1+1) 0 15:=λj hj=>by
  have hW:∀ (W:World) (cs:Array Value) (t:TypeId) (o:Obj),W.heap.size=w.heap.size+1+1->cs.size=15->(((W.alloc (.cells cs t)).alloc o).cell? ⟨w.heap.size+1+1,0+j,none⟩).isSome=true/\((W.alloc (.cells cs t)).alloc o).frozen? ⟨w.heap.size+1+1,0+j,none⟩=false:=λW cs t o hs hc=>by
   have:=World.there_alloc (zds W cs t 15 hc) o j hj
   rwa [hs] at this
  rw [hq,hqf]
  exact hW _ _ _ _ (by simp) rfl
 have HK0:w1.drew.cell? ⟨w.heap.size+1+1+1,0,none⟩=some (.int .u16 (y.c.r 0))/\w1.drew.cell? ⟨w.heap.size+1+1+1,1,none⟩=some (.int .u16 (y.c.r 1))/\w1.drew.cell? ⟨w.heap.size+1+1+1,2,none⟩=some (.int .u16 (y.c.r 2))/\w1.drew.cell? ⟨w.heap.size+1+1+1,3,none⟩=some (.int .u16 (y.c.r 3))/\w1.drew.cell? ⟨w.heap.size+1+1+1,4,none⟩=some (.int .u16 (y.c.r 4))/\w1.drew.cell? ⟨w.heap.size+1+1+1,5,none⟩=some (.int .u16 (y.c.r 5))/\w1.drew.cell? ⟨w.heap.size+1+1+1,6,none⟩=some (.int .u16 (y.c.r 6))/\w1.drew.cell? ⟨w.heap.size+1+1+1,7,none⟩=some (.int .u16 (y.c.r 7))/\w1.drew.cell? ⟨w.heap.size+1+1+1,8,none⟩=some (.int .u16 y.c.PC)/\w1.drew.cell? ⟨w.heap.size+1+1+1,9,none⟩=some (.bool y.c.Z)/\w1.drew.cell? ⟨w.heap.size+1+1+1,10,none⟩=some (.bool y.c.N)/\w1.drew.cell? ⟨w.heap.size+1+1+1,11,none⟩=some (.bool y.c.C)/\w1.drew.cell? ⟨w.heap.size+1+1+1,12,none⟩=some (.bool y.c.V)/\w1.drew.cell? ⟨w.heap.size+1+1+1,13,none⟩=some (.bool y.c.May)/\w1.drew.cell? ⟨w.heap.size+1+1+1,14,none⟩=some (.bool y.c.Waits)/\w1.drew.cell? ⟨w.heap.size+1+1+1,17,none⟩=some (.int .i64 y.n):=drew16 _ (w.heap.size+1+1+1) y ⟨d0,d1,d2,d3,d4,d5,d6,d7,d8,d9,d10,d11,d12,d13,d14,d17⟩
 have HK1:∀ W:World,(W.cell? ⟨w.heap.size+1+1+1,0,none⟩=some (.int .u16 (y.c.r 0))/\W.cell? ⟨w.heap.size+1+1+1,1,none⟩=some (.int .u16 (y.c.r 1))/\W.cell? ⟨w.heap.size+1+1+1,2,none⟩=some (.int .u16 (y.c.r 2))/\W.cell? ⟨w.heap.size+1+1+1,3,none⟩=some (.int .u16 (y.c.r 3))/\W.cell? ⟨w.heap.size+1+1+1,4,none⟩=some (.int .u16 (y.c.r 4))/\W.cell? ⟨w.heap.size+1+1+1,5,none⟩=some (.int .u16 (y.c.r 5))/\W.cell? ⟨w.heap.size+1+1+1,6,none⟩=some (.int .u16 (y.c.r 6))/\W.cell? ⟨w.heap.size+1+1+1,7,none⟩=some (.int .u16 (y.c.r 7))/\W.cell? ⟨w.heap.size+1+1+1,8,none⟩=some (.int .u16 y.c.PC)/\W.cell? ⟨w.heap.size+1+1+1,9,none⟩=some (.bool y.c.Z)/\W.cell? ⟨w.heap.size+1+1+1,10,none⟩=some (.bool y.c.N)/\W.cell? ⟨w.heap.size+1+1+1,11,none⟩=some (.bool y.c.C)/\W.cell? ⟨w.heap.size+1+1+1,12,none⟩=some (.bool y.c.V)/\W.cell? ⟨w.heap.size+1+1+1,13,none⟩=some (.bool y.c.May)/\W.cell? ⟨w.heap.size+1+1+1,14,none⟩=some (.bool y.c.Waits)/\W.cell? ⟨w.heap.size+1+1+1,17,none⟩=some (.int .i64 y.n))->((W.setCells (w.heap.size+1+1) 0 (cpuLC y.c)).cell? ⟨w.heap.size+1+1+1,0,none⟩=some (.int .u16 (y.c.r 0))/\(W.setCells (w.heap.size+1+1) 0 (cpuLC y.c)).cell? ⟨w.heap.size+1+1+1,1,none⟩=some (.int .u16 (y.c.r 1))/\(W.setCells (w.heap.size+1+1) 0 (cpuLC y.c)).cell? ⟨w.heap.size+1+1+1,2,none⟩=some (.int .u16 (y.c.r 2))/\(W.setCells (w.heap.size+1+1) 0 (cpuLC y.c)).cell? ⟨w.heap.size+1+1+1,3,none⟩=some (.int .u16 (y.c.r 3))/\(W.setCells (w.heap.size+1+1) 0 (cpuLC y.c)).cell? ⟨w.heap.size+1+1+1,4,none⟩=some (.int .u16 (y.c.r 4))/\(W.setCells (w.heap.size+1+1) 0 (cpuLC y.c)).cell? ⟨w.heap.size+1+1+1,5,none⟩=some (.int .u16 (y.c.r 5))/\(W.setCells (w.heap.size+1+1) 0 (cpuLC y.c)).cell? ⟨w.heap.size+1+1+1,6,none⟩=some (.int .u16 (y.c.r 6))/\(W.setCells (w.heap.size+1+1) 0 (cpuLC y.c)).cell? ⟨w.heap.size+1+1+1,7,none⟩=some (.int .u16 (y.c.r 7))/\(W.setCells (w.heap.size+1+1) 0 (cpuLC y.c)).cell? ⟨w.heap.size+1+1+1,8,none⟩=some (.int .u16 y.c.PC)/\(W.setCells (w.heap.size+1+1) 0 (cpuLC y.c)).cell? ⟨w.heap.size+1+1+1,9,none⟩=some (.bool y.c.Z)/\(W.setCells (w.heap.size+1+1) 0 (cpuLC y.c)).cell? ⟨w.heap.size+1+1+1,10,none⟩=some (.bool y.c.N)/\(W.setCells (w.heap.size+1+1) 0 (cpuLC y.c)).cell? ⟨w.heap.size+1+1+1,11,none⟩=some (.bool y.c.C)/\(W.setCells (w.heap.size+1+1) 0 (cpuLC y.c)).cell? ⟨w.heap.size+1+1+1,12,none⟩=some (.bool y.c.V)/\(W.setCells (w.heap.size+1+1) 0 (cpuLC y.c)).cell? ⟨w.heap.size+1+1+1,13,none⟩=some (.bool y.c.May)/\(W.setCells (w.heap.size+1+1) 0 (cpuLC y.c)).cell? ⟨w.heap.size+1+1+1,14,none⟩=some (.bool y.c.Waits)/\(W.setCells (w.heap.size+1+1) 0 (cpuLC y.c)).cell? ⟨w.heap.size+1+1+1,17,none⟩=some (.int .i64 y.n)):=λW ⟨e0,e1,e2,e3,e4,e5,e6,e7,e8,e9,e10,e11,e12,e13,e14,e17⟩=>by
  have hout:∀ (i:Nat) (u:Value),W.cell? ⟨w.heap.size+1+1+1,i,none⟩=some u->(W.setCells (w.heap.size+1+1) 0 (cpuLC y.c)).cell? ⟨w.heap.size+1+1+1,i,none⟩=some u:=λi u h=>(World.cell?_setCells_out _ _ _ _ _ (λe=>by simp at e)).trans h
  exact ⟨hout _ _ e0,hout _ _ e1,hout _ _ e2,hout _ _ e3,hout _ _ e4,hout _ _ e5,hout _ _ e6,hout _ _ e7,hout _ _ e8,hout _ _ e9,hout _ _ e10,hout _ _ e11,hout _ _ e12,hout _ _ e13,hout _ _ e14,hout _ _ e17⟩
 have HK2:(w1.setCells (w.heap.size+1+1) 0 (cpuLC y.c)).drew.cell? ⟨w.heap.size+1+1+1,0,none⟩=some (.int .u16 (y.c.r 0))/\(w1.setCells (w.heap.size+1+1) 0 (cpuLC y.c)).drew.cell? ⟨w.heap.size+1+1+1,1,none⟩=some (.int .u16 (y.c.r 1))/\(w1.setCells (w.heap.size+1+1) 0 (cpuLC y.c)).drew.cell? ⟨w.heap.size+1+1+1,2,none⟩=some (.int .u16 (y.c.r 2))/\(w1.setCells (w.heap.size+1+1) 0 (cpuLC y.c)).drew.cell? ⟨w.heap.size+1+1+1,3,none⟩=some (.int .u16 (y.c.r 3))/\(w1.setCells (w.heap.size+1+1) 0 (cpuLC y.c)).drew.cell? ⟨w.heap.size+1+1+1,4,none⟩=some (.int .u16 (y.c.r 4))/\(w1.setCells (w.heap.size+1+1) 0 (cpuLC y.c)).drew.cell? ⟨w.heap.size+1+1+1,5,none⟩=some (.int .u16 (y.c.r 5))/\(w1.setCells (w.heap.size+1+1) 0 (cpuLC y.c)).drew.cell? ⟨w.heap.size+1+1+1,6,none⟩=some (.int .u16 (y.c.r 6))/\(w1.setCells (w.heap.size+1+1) 0 (cpuLC y.c)).drew.cell? ⟨w.heap.size+1+1+1,7,none⟩=some (.int .u16 (y.c.r 7))/\(w1.setCells (w.heap.size+1+1) 0 (cpuLC y.c)).drew.cell? ⟨w.heap.size+1+1+1,8,none⟩=some (.int .u16 y.c.PC)/\(w1.setCells (w.heap.size+1+1) 0 (cpuLC y.c)).drew.cell? ⟨w.heap.size+1+1+1,9,none⟩=some (.bool y.c.Z)/\(w1.setCells (w.heap.size+1+1) 0 (cpuLC y.c)).drew.cell? ⟨w.heap.size+1+1+1,10,none⟩=some (.bool y.c.N)/\(w1.setCells (w.heap.size+1+1) 0 (cpuLC y.c)).drew.cell? ⟨w.heap.size+1+1+1,11,none⟩=some (.bool y.c.C)/\(w1.setCells (w.heap.size+1+1) 0 (cpuLC y.c)).drew.cell? ⟨w.heap.size+1+1+1,12,none⟩=some (.bool y.c.V)/\(w1.setCells (w.heap.size+1+1) 0 (cpuLC y.c)).drew.cell? ⟨w.heap.size+1+1+1,13,none⟩=some (.bool y.c.May)/\(w1.setCells (w.heap.size+1+1) 0 (cpuLC y.c)).drew.cell? ⟨w.heap.size+1+1+1,14,none⟩=some (.bool y.c.Waits)/\(w1.setCells (w.heap.size+1+1) 0 (cpuLC y.c)).drew.cell? ⟨w.heap.size+1+1+1,17,none⟩=some (.int .i64 y.n):=drew16 _ (w.heap.size+1+1+1) y (HK1 w1 ⟨d0,d1,d2,d3,d4,d5,d6,d7,d8,d9,d10,d11,d12,d13,d14,d17⟩)
 have z0:w1.cell? ⟨w.heap.size+1+1,0,none⟩=some (.int .u16 0):=(hq 0).trans (qz _ _ _ _ _ (by simp))
 have z1:w1.cell? ⟨w.heap.size+1+1,1,none⟩=some (.int .u16 0):=(hq 1).trans (qz _ _ _ _ _ (by simp))
 have z2:w1.cell? ⟨w.heap.size+1+1,2,none⟩=some (.int .u16 0):=(hq 2).trans (qz _ _ _ _ _ (by simp))
 have z3:w1.cell? ⟨w.heap.size+1+1,3,none⟩=some (.int .u16 0):=(hq 3).trans (qz _ _ _ _ _ (by simp))
 have z4:w1.cell? ⟨w.heap.size+1+1,4,none⟩=some (.int .u16 0):=(hq 4).trans (qz _ _ _ _ _ (by simp))
 have z5:w1.cell? ⟨w.heap.size+1+1,5,none⟩=some (.int .u16 0):=(hq 5).trans (qz _ _ _ _ _ (by simp))
 have z6:w1.cell? ⟨w.heap.size+1+1,6,none⟩=some (.int .u16 0):=(hq 6).trans (qz _ _ _ _ _ (by simp))
 have z7:w1.cell? ⟨w.heap.size+1+1,7,none⟩=some (.int .u16 0):=(hq 7).trans (qz _ _ _ _ _ (by simp))
 have z8:w1.cell? ⟨w.heap.size+1+1,8,none⟩=some (.int .u16 0):=(hq 8).trans (qz _ _ _ _ _ (by simp))
 have z9:w1.cell? ⟨w.heap.size+1+1,9,none⟩=some (.bool false):=(hq 9).trans (qz _ _ _ _ _ (by simp))
 have z10:w1.cell? ⟨w.heap.size+1+1,10,none⟩=some (.bool false):=(hq 10).trans (qz _ _ _ _ _ (by simp))
 have z11:w1.cell? ⟨w.heap.size+1+1,11,none⟩=some (.bool false):=(hq 11).trans (qz _ _ _ _ _ (by simp))
 have z12:w1.cell? ⟨w.heap.size+1+1,12,none⟩=some (.bool false):=(hq 12).trans (qz _ _ _ _ _ (by simp))
 have z13:w1.cell? ⟨w.heap.size+1+1,13,none⟩=some (.bool false):=(hq 13).trans (qz _ _ _ _ _ (by simp))
 have z14:w1.cell? ⟨w.heap.size+1+1,14,none⟩=some (.bool false):=(hq 14).trans (qz _ _ _ _ _ (by simp))
 have zf:∀ o,w1.frozen? ⟨w.heap.size+1+1,o,none⟩=false:=λo=>(hqf o).trans (qzf _ _ _ _ _ (by simp))
 have HTH:=hid hth
 clear HK1
 clear d0 d1 d2 d3 d4 d5 d6 d7 d8 d9 d10 d11 d12 d13 d14 d17 hrg hth hq hqf
 go_region_held3 (λw'=>w'.cell? ⟨w.heap.size+1+1+1,0,none⟩=some (.int .u16 (y.c.r 0))/\w'.cell? ⟨w.heap.size+1+1+1,1,none⟩=some (.int .u16 (y.c.r 1))/\w'.cell? ⟨w.heap.size+1+1+1,2,none⟩=some (.int .u16 (y.c.r 2))/\w'.cell? ⟨w.heap.size+1+1+1,3,none⟩=some (.int .u16 (y.c.r 3))/\w'.cell? ⟨w.heap.size+1+1+1,4,none⟩=some (.int .u16 (y.c.r 4))/\w'.cell? ⟨w.heap.size+1+1+1,5,none⟩=some (.int .u16 (y.c.r 5))/\w'.cell? ⟨w.heap.size+1+1+1,6,none⟩=some (.int .u16 (y.c.r 6))/\w'.cell? ⟨w.heap.size+1+1+1,7,none⟩=some (.int .u16 (y.c.r 7))/\w'.cell? ⟨w.heap.size+1+1+1,8,none⟩=some (.int .u16 y.c.PC)/\w'.cell? ⟨w.heap.size+1+1+1,9,none⟩=some (.bool y.c.Z)/\w'.cell? ⟨w.heap.size+1+1+1,10,none⟩=some (.bool y.c.N)/\w'.cell? ⟨w.heap.size+1+1+1,11,none⟩=some (.bool y.c.C)/\w'.cell? ⟨w.heap.size+1+1+1,12,none⟩=some (.bool y.c.V)/\w'.cell? ⟨w.heap.size+1+1+1,13,none⟩=some (.bool y.c.May)/\w'.cell? ⟨w.heap.size+1+1+1,14,none⟩=some (.bool y.c.Waits)/\w'.cell? ⟨w.heap.size+1+1+1,17,none⟩=some (.int .i64 y.n))
  (first|with_reducible exact HK0|(rw [zfU];with_reducible exact HK2))
  (fail)
 go_wp2
 have hT:¬ Tw T w1 y.s (w.heap.size+1+1):=λht=>by
  rcases HM1.out.fresh _ (Or.inr ht) with (x|x)|x
  ·omega
  ·exact Tw.third (HR.out.out HI.out (by omega)) (by decide) x
  ·simp at x
   omega
 have h0:=PM.gone HM1.out (w:=w) (stA (stA (stA (stA (st0 w) _) _) _) _) (HR.out.big HI.out) (by omega) HY1.out.ownW
 have hB:=HR.out.big HI.out
 rw [zfU]
 refine cutB (λW=>I W y.s/\Mv B (Tw T w s) (Tw T W y.s) w W/\W.rangeAt (w.heap.size+1+1) 0 (cpuLC y.c)) (endK HR.out (cpuLC y.c) HY1.out.inv h0 hT (by omega) HTH.out hB) ?_
 rintro W ⟨hI,hm,hr⟩
 have hl:=zlD W _ y.c hr
 exact bodyPost_ret (v:=.tuple #[cpuV y.c,.int .i64 y.n]) (by simp only [results,Tryz.results112];simp;show (Result.andThen (Sem.run Tryz.prog (loadVar 25 ⟨w.heap.size+1+1,0,none⟩) W) λa w'=>Result.ok (Value.tuple #[a,Value.int IntKind.i64 y.n]) w')=_;rw [hl];rfl) rfl ⟨rfl,hI,hm,HY1.out.ok⟩
end
section
variable {F : Fx} {W : World} {M : Mach} {tk : Tk}
theorem zmF (a b:Bool):bits .or .u8 (sel a 1 0) (sel b 2 0)=two a b:=by cases a <;> cases b <;> rfl
theorem zhQ (h:Bd F W M tk):Calls Tryz.prog 166 #[pt F.g 0] W λe w'=>e = .returned (.int .u8 (two M.t.on M.t.g))/\Bd F w' M tk/\Bt F W w':=by
 have c1:=h.at 43 (.bool M.t.on) rfl
 have c2:=h.at 44 (.bool M.t.g) rfl
 have hg:=h.bx.z
 have H:=hid h
 clear h
 rw [<- zmF]
 generalize M.t.on=x at *
 generalize M.t.g=y at *
 go_enter Tryz.func166,Tryz.ntmps166
 go_wp2
 go_region_held3 (λw'=>w'.cell? ⟨F.g,43,none⟩=some (.bool x)/\w'.cell? ⟨F.g,44,none⟩=some (.bool y))
  ((go_keep;done))
  ((go_at_call 220;refine (zb7 _ _ _).mono ?_;rintro e w1 ⟨rfl,rfl⟩))
 go_wp2
 go_ret
 exact ⟨rfl,H.out.drew,(Bt.refl _ _).drew⟩
theorem zlE (h:Bd F W M tk):Calls Tryz.prog 173 #[pt F.g 0] W λe w'=>e = .returned (.int .u8 (two M.granted M.held))/\Bd F w' M tk/\Bt F W w':=by
 have c1:=h.at 67 (.bool M.granted) rfl
 have c2:=h.at 68 (.bool M.held) rfl
 have hg:=h.bx.z
 have H:=hid h
 clear h
 rw [<- zmF]
 generalize M.granted=x at *
 generalize M.held=y at *
 go_enter Tryz.func173,Tryz.ntmps173
 go_wp2
 go_region_with (go_at_call 220;refine (zb7 _ _ _).mono ?_;rintro e w1 ⟨rfl,rfl⟩)
 all_goals
  go_wp2
  go_ret
  exact ⟨rfl,H.out.drew,(Bt.refl _ _).drew⟩
theorem zjx (h:Bd F W M tk):Calls Tryz.prog 170 #[pt F.g 0] W λe w'=>e = .returned (.int .u8 (two M.b.g false))/\Bd F w' M tk/\Bt F W w':=by
 have c1:=h.at 63 (.bool M.b.g) rfl
 have hg:=h.bx.z
 have H:=hid h
 clear h
 rw [show two M.b.g false=sel M.b.g 1 0 by cases M.b.g <;> rfl]
 generalize M.b.g=x at *
 go_enter Tryz.func170,Tryz.ntmps170
 go_wp2_with (go_at_call 220;refine (zb7 _ _ _).mono ?_;rintro e w1 ⟨rfl,rfl⟩)
 go_ret
 exact ⟨rfl,H.out,Bt.refl _ _⟩
theorem zjy (h:Bd F W M tk):Calls Tryz.prog 168 #[pt F.E.mb 0] W λe w'=>e = .returned (.int .u8 M.b.l)/\Bd F w' M tk/\Bt F W w':=by
 have c1:=h.at 61 (.int .i64 M.b.l) rfl
 have hg:=h.bx.z
 obtain ⟨z1,e1⟩:=h.env _ _ .mb
 have b0:=h.fit.b.l0
 have b1:=h.fit.b.l1
 have H:=hid h
 clear h
 go_enter Tryz.func168,Tryz.ntmps168
 go_wp2
 go_ret
 exact ⟨rfl,H.out,Bt.refl _ _⟩
theorem zny (h:Bd F W M tk):Calls Tryz.prog 169 #[pt F.E.mb 0] W λe w'=>e = .returned (.int .u8 M.b.a)/\Bd F w' M tk/\Bt F W w':=by
 have c1:=h.at 62 (.int .i64 M.b.a) rfl
 have hg:=h.bx.z
 obtain ⟨z1,e1⟩:=h.env _ _ .mb
 have b0:=h.fit.b.a0
 have b1:=h.fit.b.a1
 have H:=hid h
 clear h
 go_enter Tryz.func169,Tryz.ntmps169
 go_wp2
 go_ret
 exact ⟨rfl,H.out,Bt.refl _ _⟩
theorem zjz (h:Bd F W M tk):Calls Tryz.prog 175 #[pt F.E.mb 0] W λe w'=>e = .returned (.int .u8 M.m1)/\Bd F w' M tk/\Bt F W w':=by
 have c1:=h.at 70 (.int .u8 M.m1) rfl
 have hg:=h.bx.z
 obtain ⟨z1,e1⟩:=h.env _ _ .mb
 have H:=hid h
 clear h
 go_enter Tryz.func175,Tryz.ntmps175
 go_wp2
 go_ret
 exact ⟨rfl,H.out,Bt.refl _ _⟩
theorem zjA (h:Bd F W M tk):Calls Tryz.prog 177 #[pt F.g 0] W λe w'=>e = .returned (.int .u8 M.m0)/\Bd F w' { M with rung:=false } tk/\Bt F W w':=by
 have c1:=h.at 69 (.int .u8 M.m0) rfl
 have c2:=h.at 71 (.bool M.rung) rfl
 have c3:=h.bx.f 71
 have hg:=h.bx.z
 have H:=hid h
 clear h
 go_enter Tryz.func177,Tryz.ntmps177
 go_wp2
 go_ret
 exact ⟨rfl,H.out.put 71 _ (by omega) rfl ⟨rfl,rfl,rfl,rfl,rfl⟩ { H.out.fit with main:=H.out.fit.main },(Bt.refl _ _).set H.out.nd _ _⟩
end
section
variable {F : Fx} {W : World} {M M' : Mach} {tk : Tk}
theorem zjB (h:Bd F W M tk):Calls Tryz.prog 215 #[pt F.E.q1 0,pt F.E.w1 0] W λe w'=>e = .returned (.int .u8 (M.portM 1).1)/\Bd F w' (M.portM 1).2 tk/\Bt F W w':=by
 have c0:=h.at 38 (.int .u8 M.p1.d) rfl
 have c1:=h.at 39 (.bool M.p1.l) rfl
 have c2:=h.at 40 (.int .u8 M.p1.s) rfl
 have hg:=h.bx.z
 obtain ⟨y1,e1⟩:=h.env _ _ .q1
 obtain ⟨y2,e2⟩:=h.env _ _ .w1
 have hp:=h.fit.p1
 have H:=hid h
 clear h
 go_enter Tryz.func215,Tryz.ntmps215
 go_upto_region 1 with fail
 go_cut [0,1,3,4] (λv0 v1 v3 v4 wx=>v0=pt F.E.q1 0/\v1=pt F.E.w1 0/\v3 = .int .u8 M.p1.rd /\ ∃ b,v4=pt b 0/\PdC F W M tk b M.p1.next wx)
 case first =>
  go_region_with (go_at_call 216;refine (zgN _ _ _ _ hp.d hp.s).mono ?_;rintro e w1 ⟨rfl,hb1⟩;obtain ⟨k1,f1⟩:=bcell hb1;try (have z1:=zmw hb1);have z2:F.g<w1.heap.size:=zel hg hb1 (by simp))
  all_goals (go_wp2_with fail;go_meet)
  all_goals refine ⟨rfl,rfl,rfl,_,rfl,?_⟩
  all_goals first
   | exact PdC.mkB H.out hb1
   | exact PdC.mkA H.out hb1
 case rest =>
  obtain ⟨rfl,rfl,rfl,b,rfl,hC⟩:=hcut
  obtain ⟨d0,d1,d2⟩:=hC.all
  have c0:=hC.bd.at 38 (.int .u8 M.p1.d) rfl
  have c1:=hC.bd.at 39 (.bool M.p1.l) rfl
  have c2:=hC.bd.at 40 (.int .u8 M.p1.s) rfl
  have f0:=hC.bd.bx.f
  have hg:=hC.bd.bx.z
  have hbz:=hC.bx.z
  obtain ⟨y1,e1⟩:=hC.bd.env _ _ .q1
  obtain ⟨y2,e2⟩:=hC.bd.env _ _ .w1
  have HC:=hid hC
  clear hC
  go_wp2
  go_region_with fail
  all_goals go_wp2
  all_goals go_ret
  all_goals
   refine ⟨rfl,?_,?_⟩
   ·exact HC.out.bd.drew.puts (M':={ M with p1:=M.p1.next }) (tk':=tk) 38 [.int .u8 M.p1.next.d,.bool M.p1.next.l,.int .u8 M.p1.next.s] (by simp) rfl ⟨rfl,rfl,rfl,rfl,rfl⟩ { HC.out.bd.fit with main:=HC.out.bd.fit.main,p1:=Pd.next_ok HC.out.bd.fit.p1 }
   ·exact Bt.sets HC.out.bd.nd [.int .u8 M.p1.next.d,.bool M.p1.next.l,.int .u8 M.p1.next.s] 38 _ HC.out.bt.drew
end
section
variable {F : Fx} {W : World} {M M' : Mach} {tk tk' : Tk}
theorem eq_g (n:Nat) (a b:Array Value) (w:World):(binOp .eql 126 (.func (.func n) a b) .nilFunc).run Tryz.prog w = .ok (.bool false) w:=by kernel_rfl
theorem eq_gn (w:World):(binOp .eql 126 .nilFunc .nilFunc).run Tryz.prog w = .ok (.bool true) w:=by kernel_rfl
theorem zak (vw:Value) (h:Bd F W M tk):Calls Tryz.prog 183 #[.agg #[.nilFunc,vw]] W λe w'=>e = .returned (.int .u8 255)/\Bd F w' M tk/\Bt F W w':=by
 have hn:=eq_gn
 have H:=hid h
 clear h
 go_enter Tryz.func183,Tryz.ntmps183
 go_wp2
 go_ret
 exact ⟨rfl,H.out.over _,Mv.of_below H.out.big (stA (st0 _) _)⟩
theorem zjC (vw:Value) (x:Int) (h:Bd F W M tk) (hc:∀ W,Bd F W M tk->Calls Tryz.prog 166 #[pt F.g 0] W λe w'=>e = .returned (.int .u8 x)/\Bd F w' M' tk/\Bt F W w') :
 Calls Tryz.prog 183 #[.agg #[mval 166 F.g 0,vw]] W λe w'=>e = .returned (.int .u8 x)/\Bd F w' M' tk/\Bt F W w':=by
 have hn:∀ w:World,(binOp .eql 126 (mval 166 F.g 0) .nilFunc).run Tryz.prog w = .ok (.bool false) w:=λw=>eq_g _ _ _ w
 have H:=hid h
 have HC:=hid hc
 clear h hc
 go_enter Tryz.func183,Tryz.ntmps183
 go_wp2_with (go_at_call 166;refine (HC.out _ (H.out.over _)).mono ?_;rintro e w1 ⟨rfl,hB,hT⟩)
 go_ret
 exact ⟨rfl,hB,Mv.trans (Mv.of_below H.out.big (stA (st0 _) _)) hT⟩
theorem zjD (vw:Value) (x:Int) (h:Bd F W M tk) (hc:∀ W,Bd F W M tk->Calls Tryz.prog 170 #[pt F.g 0] W λe w'=>e = .returned (.int .u8 x)/\Bd F w' M' tk/\Bt F W w') :
 Calls Tryz.prog 183 #[.agg #[mval 170 F.g 0,vw]] W λe w'=>e = .returned (.int .u8 x)/\Bd F w' M' tk/\Bt F W w':=by
 have hn:∀ w:World,(binOp .eql 126 (mval 170 F.g 0) .nilFunc).run Tryz.prog w = .ok (.bool false) w:=λw=>eq_g _ _ _ w
 have H:=hid h
 have HC:=hid hc
 clear h hc
 go_enter Tryz.func183,Tryz.ntmps183
 go_wp2_with (go_at_call 170;refine (HC.out _ (H.out.over _)).mono ?_;rintro e w1 ⟨rfl,hB,hT⟩)
 go_ret
 exact ⟨rfl,hB,Mv.trans (Mv.of_below H.out.big (stA (st0 _) _)) hT⟩
theorem zjE (vw:Value) (x:Int) (h:Bd F W M tk) (hc:∀ W,Bd F W M tk->Calls Tryz.prog 173 #[pt F.g 0] W λe w'=>e = .returned (.int .u8 x)/\Bd F w' M' tk/\Bt F W w') :
 Calls Tryz.prog 183 #[.agg #[mval 173 F.g 0,vw]] W λe w'=>e = .returned (.int .u8 x)/\Bd F w' M' tk/\Bt F W w':=by
 have hn:∀ w:World,(binOp .eql 126 (mval 173 F.g 0) .nilFunc).run Tryz.prog w = .ok (.bool false) w:=λw=>eq_g _ _ _ w
 have H:=hid h
 have HC:=hid hc
 clear h hc
 go_enter Tryz.func183,Tryz.ntmps183
 go_wp2_with (go_at_call 173;refine (HC.out _ (H.out.over _)).mono ?_;rintro e w1 ⟨rfl,hB,hT⟩)
 go_ret
 exact ⟨rfl,hB,Mv.trans (Mv.of_below H.out.big (stA (st0 _) _)) hT⟩
theorem zjF (vw:Value) (x:Int) (h:Bd F W M tk) (hc:∀ W,Bd F W M tk->Calls Tryz.prog 177 #[pt F.g 0] W λe w'=>e = .returned (.int .u8 x)/\Bd F w' M' tk/\Bt F W w') :
 Calls Tryz.prog 183 #[.agg #[mval 177 F.g 0,vw]] W λe w'=>e = .returned (.int .u8 x)/\Bd F w' M' tk/\Bt F W w':=by
 have hn:∀ w:World,(binOp .eql 126 (mval 177 F.g 0) .nilFunc).run Tryz.prog w = .ok (.bool false) w:=λw=>eq_g _ _ _ w
 have H:=hid h
 have HC:=hid hc
 clear h hc
 go_enter Tryz.func183,Tryz.ntmps183
 go_wp2_with (go_at_call 177;refine (HC.out _ (H.out.over _)).mono ?_;rintro e w1 ⟨rfl,hB,hT⟩)
 go_ret
 exact ⟨rfl,hB,Mv.trans (Mv.of_below H.out.big (stA (st0 _) _)) hT⟩
theorem zjG (vw:Value) (x:Int) (h:Bd F W M tk) (hc:∀ W,Bd F W M tk->Calls Tryz.prog 168 #[pt F.E.mb 0] W λe w'=>e = .returned (.int .u8 x)/\Bd F w' M' tk/\Bt F W w') :
 Calls Tryz.prog 183 #[.agg #[fval 168 #[pt F.E.mb 0],vw]] W λe w'=>e = .returned (.int .u8 x)/\Bd F w' M' tk/\Bt F W w':=by
 have hn:∀ w:World,(binOp .eql 126 (fval 168 #[pt F.E.mb 0]) .nilFunc).run Tryz.prog w = .ok (.bool false) w:=λw=>eq_g _ _ _ w
 have H:=hid h
 have HC:=hid hc
 clear h hc
 go_enter Tryz.func183,Tryz.ntmps183
 go_wp2_with (go_at_call 168;refine (HC.out _ (H.out.over _)).mono ?_;rintro e w1 ⟨rfl,hB,hT⟩)
 go_ret
 exact ⟨rfl,hB,Mv.trans (Mv.of_below H.out.big (stA (st0 _) _)) hT⟩
theorem zjH (vw:Value) (x:Int) (h:Bd F W M tk) (hc:∀ W,Bd F W M tk->Calls Tryz.prog 169 #[pt F.E.mb 0] W λe w'=>e = .returned (.int .u8 x)/\Bd F w' M' tk/\Bt F W w') :
 Calls Tryz.prog 183 #[.agg #[fval 169 #[pt F.E.mb 0],vw]] W λe w'=>e = .returned (.int .u8 x)/\Bd F w' M' tk/\Bt F W w':=by
 have hn:∀ w:World,(binOp .eql 126 (fval 169 #[pt F.E.mb 0]) .nilFunc).run Tryz.prog w = .ok (.bool false) w:=λw=>eq_g _ _ _ w
 have H:=hid h
 have HC:=hid hc
 clear h hc
 go_enter Tryz.func183,Tryz.ntmps183
 go_wp2_with (go_at_call 169;refine (HC.out _ (H.out.over _)).mono ?_;rintro e w1 ⟨rfl,hB,hT⟩)
 go_ret
 exact ⟨rfl,hB,Mv.trans (Mv.of_below H.out.big (stA (st0 _) _)) hT⟩
theorem zjI (vw:Value) (x:Int) (h:Bd F W M tk) (hc:∀ W,Bd F W M tk->Calls Tryz.prog 175 #[pt F.E.mb 0] W λe w'=>e = .returned (.int .u8 x)/\Bd F w' M' tk/\Bt F W w') :
 Calls Tryz.prog 183 #[.agg #[fval 175 #[pt F.E.mb 0],vw]] W λe w'=>e = .returned (.int .u8 x)/\Bd F w' M' tk/\Bt F W w':=by
 have hn:∀ w:World,(binOp .eql 126 (fval 175 #[pt F.E.mb 0]) .nilFunc).run Tryz.prog w = .ok (.bool false) w:=λw=>eq_g _ _ _ w
 have H:=hid h
 have HC:=hid hc
 clear h hc
 go_enter Tryz.func183,Tryz.ntmps183
 go_wp2_with (go_at_call 175;refine (HC.out _ (H.out.over _)).mono ?_;rintro e w1 ⟨rfl,hB,hT⟩)
 go_ret
 exact ⟨rfl,hB,Mv.trans (Mv.of_below H.out.big (stA (st0 _) _)) hT⟩
theorem zfV (vw:Value) (x:Int) (q v:Nat) (h:Bd F W M tk) (hc:∀ W,Bd F W M tk->Calls Tryz.prog 215 #[pt q 0,pt v 0] W λe w'=>e = .returned (.int .u8 x)/\Bd F w' M' tk/\Bt F W w') :
 Calls Tryz.prog 183 #[.agg #[fval 215 #[pt q 0,pt v 0],vw]] W λe w'=>e = .returned (.int .u8 x)/\Bd F w' M' tk/\Bt F W w':=by
 have hn:∀ w:World,(binOp .eql 126 (fval 215 #[pt q 0,pt v 0]) .nilFunc).run Tryz.prog w = .ok (.bool false) w:=λw=>eq_g _ _ _ w
 have H:=hid h
 have HC:=hid hc
 clear h hc
 go_enter Tryz.func183,Tryz.ntmps183
 go_wp2_with (go_at_call 215;refine (HC.out _ (H.out.over _)).mono ?_;rintro e w1 ⟨rfl,hB,hT⟩)
 go_ret
 exact ⟨rfl,hB,Mv.trans (Mv.of_below H.out.big (stA (st0 _) _)) hT⟩
theorem zlF (i:Nat) (hi:i<32):GetM F M tk i:=by
 intro W h
 have hc:i=0 \/ i=1 \/ i=2 \/ i=3 \/ i=4 \/ i=5 \/ i=6 \/ i=7 \/ i=8 \/ i=9 \/ i=10 \/ i=11 \/ i=12 \/ i=13 \/ i=14 \/ i=15 \/ i=16 \/ i=17 \/ i=18 \/ i=19 \/ i=20 \/ i=21 \/ i=22 \/ i=23 \/ i=24 \/ i=25 \/ i=26 \/ i=27 \/ i=28 \/ i=29 \/ i=30 \/ i=31:=by omega
 rcases hc with rfl|rfl|rfl|rfl|rfl|rfl|rfl|rfl|rfl|rfl|rfl|rfl|rfl|rfl|rfl|rfl|rfl|rfl|rfl|rfl|rfl|rfl|rfl|rfl|rfl|rfl|rfl|rfl|rfl|rfl|rfl|rfl
 ·exact zfV _ _ _ _ h (λW h=>ziz h)
 ·exact zfV _ _ _ _ h (λW h=>zjB h)
 ·exact zak _ h
 ·exact zak _ h
 ·exact zjC _ _ h (λW h=>zhQ h)
 ·exact zak _ h
 ·exact zjG _ _ h (λW h=>zjy h)
 ·exact zjH _ _ h (λW h=>zny h)
 ·exact zjD _ _ h (λW h=>zjx h)
 ·exact zak _ h
 ·exact zak _ h
 ·exact zak _ h
 ·exact zak _ h
 ·exact zak _ h
 ·exact zak _ h
 ·exact zak _ h
 ·exact zjE _ _ h (λW h=>zlE h)
 ·exact zjI _ _ h (λW h=>zjz h)
 ·exact zak _ h
 ·exact zak _ h
 ·exact zak _ h
 ·exact zak _ h
 ·exact zak _ h
 ·exact zak _ h
 ·exact zak _ h
 ·exact zak _ h
 ·exact zak _ h
 ·exact zak _ h
 ·exact zak _ h
 ·exact zak _ h
 ·exact zak _ h
 ·exact zak _ h
theorem zlG (i:Nat) (hi:i<32):GetA F M tk i:=by
 intro W h
 unfold Fx.rdA Mach.portA
 by_cases e:i=24
 ·rw [if_pos e,if_pos e]
  exact zjF _ _ h (λW h=>zjA h)
 ·rw [if_neg e,if_neg e]
  exact zak _ h
end
end Go.Proofs.YtbennamieealbaaGreatDoor
