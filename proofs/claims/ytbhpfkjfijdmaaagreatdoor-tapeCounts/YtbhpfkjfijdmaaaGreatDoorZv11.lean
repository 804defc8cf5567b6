/-
  Parts of a proof, joined.
-/
import Derived.Test.YtbhpfkjfijdmaaaGreatDoorZv10
import Derived.Test.YtbhpfkjfijdmaaaGreatDoorZv00
import Derived.Laws.EntriesVeiled
namespace Go.Proofs.YtbhpfkjfijdmaaaGreatDoor
open Go.ChangeShapes Go.WideShapes Go.ChangeAt Go.RowKit
set_option linter.unusedVariables false
set_option maxRecDepth 100000
set_option maxHeartbeats 1600000
section
variable {σ : Type} {m : C.Mem σ} {B nr nw : Nat} {cr cw : Array Value × Array Value} {I : World -> σ -> Prop} {T : σ -> Nat -> Prop}
theorem pcells_lit (c:C.Cpu) (hc:c.R.length=8) (fr fw:Value) (n:Int):(#[.int .u16 (c.r 0),.int .u16 (c.r 1),.int .u16 (c.r 2),.int .u16 (c.r 3),.int .u16 (c.r 4),.int .u16 (c.r 5),.int .u16 (c.r 6),.int .u16 (c.r 7),.int .u16 c.PC,.bool c.Z,.bool c.N,.bool c.C,.bool c.V,.bool c.May,.bool c.Waits,fr,fw,.int .i64 n]:Array Value)=pcells c fr fw n:=by
 obtain ⟨a0,a1,a2,a3,a4,a5,a6,a7,h⟩:=reg8 hc
 unfold pcells cpuCells C.Cpu.r
 rw [h]
 rfl
theorem PI.new (R:RS m B nr nw cr cw I T) {W:World} {c:C.Cpu} {s:σ} (hI:I W s) (hc:c.ok) {cs:Array Value} (e:cs=pcells c (fw nr cr) (fw nw cw) 0) {p:Nat} (hp:p=W.heap.size):PI B nr nw cr cw I T (W.alloc (.cells cs 217)) p ⟨c,s,0⟩:=by
 subst hp
 subst e
 exact ⟨R.kept hI (stA (st0 W) _),R.out hI (Nat.le_refl _),R.big hI,heap_alloc_new W _,hc⟩
theorem setCells_heap (b:Nat):∀ (vs:List Value) (o:Nat) (w:World) (k:Nat),k ≠ b->(w.setCells b o vs).heap[k]? = w.heap[k]?
 | [],o,w,k,h=>rfl
 | v :: vs,o,w,k,h=>(setCells_heap b vs (o+1) _ k h).trans (Below.heap_setCell _ _ _ _ h)
theorem setCells_size (b:Nat):∀ (vs:List Value) (o:Nat) (w:World),(w.setCells b o vs).heap.size=w.heap.size
 | [],o,w=>rfl
 | v :: vs,o,w=>(setCells_size b vs (o+1) _).trans (setCell_size _ _ _)
theorem cutB {P:Program} {fn:Func} {R:Ending->World->Prop} {e:Exit} {a:Act} {w:World} (K:World->Prop) (h:K w) (k:∀ w',K w'->bodyPost P fn R e a w'):bodyPost P fn R e a w:=k w h
theorem PM.gone {w W w1:World} {p:Nat} {s s':σ} (h:PM B T p s s' W w1) (hb:Below w.heap.size w W) (hB:B<=w.heap.size) (hp:w.heap.size<=p) (ho:¬ Tw T w1 s' p):Mv B (Tw T w s) (Tw T w1 s') w w1 :=
 ⟨(hb.mono hB).trans h.below,fun k hk ht=>(h.block k (Nat.lt_of_lt_of_le hk hb.size) (fun e=>e.elim (fun x=>by omega) (fun y=>ht (y.same (hb.block k hk))))).trans (hb.block k hk),fun k hk=>by
   rcases h.fresh k (Or.inr hk) with (x | x) | x
   ·subst x;exact absurd hk ho
   ·exact x.low hb
   ·exact Or.inr (Nat.le_trans hb.size x)⟩
abbrev cpuLC (c:C.Cpu):List Value:=[.int .u16 (c.r 0),.int .u16 (c.r 1),.int .u16 (c.r 2),.int .u16 (c.r 3),.int .u16 (c.r 4),.int .u16 (c.r 5),.int .u16 (c.r 6),.int .u16 (c.r 7),.int .u16 c.PC,.bool c.Z,.bool c.N,.bool c.C,.bool c.V,.bool c.May,.bool c.Waits]
theorem nested_eq (W:World) (q:Nat) (c:C.Cpu):(((((((((((((((W.setCell ⟨q,0,none⟩ (.int .u16 (c.r 0))).setCell ⟨q,1,none⟩ (.int .u16 (c.r 1))).setCell ⟨q,2,none⟩ (.int .u16 (c.r 2))).setCell ⟨q,3,none⟩ (.int .u16 (c.r 3))).setCell ⟨q,4,none⟩ (.int .u16 (c.r 4))).setCell ⟨q,5,none⟩ (.int .u16 (c.r 5))).setCell ⟨q,6,none⟩ (.int .u16 (c.r 6))).setCell ⟨q,7,none⟩ (.int .u16 (c.r 7))).setCell ⟨q,8,none⟩ (.int .u16 c.PC)).setCell ⟨q,9,none⟩ (.bool c.Z)).setCell ⟨q,10,none⟩ (.bool c.N)).setCell ⟨q,11,none⟩ (.bool c.C)).setCell ⟨q,12,none⟩ (.bool c.V)).setCell ⟨q,13,none⟩ (.bool c.May)).setCell ⟨q,14,none⟩ (.bool c.Waits))=W.setCells q 0 (cpuLC c):=by simp only [World.setCells,Nat.zero_add,Nat.reduceAdd]
theorem qz (W:World) (o:Obj) (b i:Nat) (cs:Array Value) {t:TypeId} (h:b=W.heap.size):((W.alloc (.cells cs t)).alloc o).cell? ⟨b,i,none⟩=cs[i]?:=by
 subst h
 rw [World.cell?_alloc_lt _ _ _ (by simp)]
 exact cell_new _ _ _ _ rfl
theorem qzf (W:World) (o:Obj) (b i:Nat) (cs:Array Value) {t:TypeId} (h:b=W.heap.size):((W.alloc (.cells cs t)).alloc o).frozen? ⟨b,i,none⟩=false:=by
 subst h
 exact (World.frozen?_of_block (w:=W.alloc (.cells cs t)) (heap_alloc_old _ _ (by simp))).trans (Lib.frozen_of_heap (heap_alloc_new W _) i)
theorem drew16 (X:World) (p:Nat) (y:C.St σ) (h:X.cell? ⟨p,0,none⟩=some (.int .u16 (y.c.r 0))/\X.cell? ⟨p,1,none⟩=some (.int .u16 (y.c.r 1))/\X.cell? ⟨p,2,none⟩=some (.int .u16 (y.c.r 2))/\X.cell? ⟨p,3,none⟩=some (.int .u16 (y.c.r 3))/\X.cell? ⟨p,4,none⟩=some (.int .u16 (y.c.r 4))/\X.cell? ⟨p,5,none⟩=some (.int .u16 (y.c.r 5))/\X.cell? ⟨p,6,none⟩=some (.int .u16 (y.c.r 6))/\X.cell? ⟨p,7,none⟩=some (.int .u16 (y.c.r 7))/\X.cell? ⟨p,8,none⟩=some (.int .u16 y.c.PC)/\X.cell? ⟨p,9,none⟩=some (.bool y.c.Z)/\X.cell? ⟨p,10,none⟩=some (.bool y.c.N)/\X.cell? ⟨p,11,none⟩=some (.bool y.c.C)/\X.cell? ⟨p,12,none⟩=some (.bool y.c.V)/\X.cell? ⟨p,13,none⟩=some (.bool y.c.May)/\X.cell? ⟨p,14,none⟩=some (.bool y.c.Waits)/\X.cell? ⟨p,17,none⟩=some (.int .i64 y.n)):X.drew.cell? ⟨p,0,none⟩=some (.int .u16 (y.c.r 0))/\X.drew.cell? ⟨p,1,none⟩=some (.int .u16 (y.c.r 1))/\X.drew.cell? ⟨p,2,none⟩=some (.int .u16 (y.c.r 2))/\X.drew.cell? ⟨p,3,none⟩=some (.int .u16 (y.c.r 3))/\X.drew.cell? ⟨p,4,none⟩=some (.int .u16 (y.c.r 4))/\X.drew.cell? ⟨p,5,none⟩=some (.int .u16 (y.c.r 5))/\X.drew.cell? ⟨p,6,none⟩=some (.int .u16 (y.c.r 6))/\X.drew.cell? ⟨p,7,none⟩=some (.int .u16 (y.c.r 7))/\X.drew.cell? ⟨p,8,none⟩=some (.int .u16 y.c.PC)/\X.drew.cell? ⟨p,9,none⟩=some (.bool y.c.Z)/\X.drew.cell? ⟨p,10,none⟩=some (.bool y.c.N)/\X.drew.cell? ⟨p,11,none⟩=some (.bool y.c.C)/\X.drew.cell? ⟨p,12,none⟩=some (.bool y.c.V)/\X.drew.cell? ⟨p,13,none⟩=some (.bool y.c.May)/\X.drew.cell? ⟨p,14,none⟩=some (.bool y.c.Waits)/\X.drew.cell? ⟨p,17,none⟩=some (.int .i64 y.n):=h
theorem info_cpuC:(Tryz.prog.info? 25).map (·.size)=some 15:=by kernel_rfl
theorem load_cpu (W:World) (q:Nat) (c:C.Cpu) (h:W.rangeAt q 0 (cpuLC c)):(loadVar 25 ⟨q,0,none⟩).run Tryz.prog W = .ok (cpuV c) W :=
 run_loadVar_mid W q 0 25 (cpuLC c) _ h Tryz.underlying25 rfl info_cpuC
theorem endK (R:RS m B nr nw cr cw I T) {w w1:World} {s s':σ} {q:Nat} (L:List Value) (hI:I w1 s') (h0:Mv B (Tw T w s) (Tw T w1 s') w w1) (hT:¬ Tw T w1 s' q) (hq:w.heap.size<=q) (hth:w1.there q 0 L.length) (hB:B<=w.heap.size) :
 I (w1.setCells q 0 L).drew s'/\Mv B (Tw T w s) (Tw T (w1.setCells q 0 L).drew s') w (w1.setCells q 0 L).drew/\(w1.setCells q 0 L).drew.rangeAt q 0 L:=by
 have hs:=setCells_size q L 0 w1
 have hh:=setCells_heap q L 0 w1
 have hb:=below_setCells (n:=B) (a:=w) (b:=q) (by omega) L 0 w1 h0.below
 have hr:=World.rangeAt_setCells_same w1 q 0 L hth
 have hts:∀ k,Tw T (w1.setCells q 0 L) s' k->Tw T w1 s' k:=fun k=>Tw.sets
 generalize w1.setCells q 0 L=X at *
 exact ⟨R.keep (w':=X.drew) hI (Nat.le_of_eq hs.symm) (fun k hk=>hh k (fun e=>hT (e ▸ hk))),⟨hb.drew,fun k hk ht=>(hh k (by omega)).trans (h0.block k hk ht),fun k hk=>h0.fresh k (hts k hk)⟩,hr⟩
theorem Tw.third {w:World} {s:σ} {o1 o2 o4:Obj} {cs:Array Value} {t:TypeId} (h:¬ T s (w.heap.size+1+1)) (ht:t ≠ 62):¬ Tw T ((((w.alloc o1).alloc o2).alloc (.cells cs t)).alloc o4) s (w.heap.size+1+1) :=
 Tw.of h (by
  have e:=heap_alloc_new ((w.alloc o1).alloc o2) (.cells cs t)
  have z:((w.alloc o1).alloc o2).heap.size=w.heap.size+1+1:=by simp
  rw [z] at e
  exact (Below.heap_alloc _ _ _ (by simp)).trans e) ht
theorem do_any (R:RS m B nr nw cr cw I T) (r:Bool) (w:World) (c:C.Cpu) (s:σ) (hc:c.ok) (hfu:4<=m.fuel s) (hI:I w s) :
 Calls Tryz.prog 86 #[cpuV c,.agg #[fw nr cr,fw nw cw],.bool r] w fun e w'=>e = .returned (.tuple #[cpuV (C.step m c s r).c,.int .i64 (C.step m c s r).n])/\I w' (C.step m c s r).s/\Mv B (Tw T w s) (Tw T w' (C.step m c s r).s) w w'/\(C.step m c s r).c.ok:=by
 have HR:=hid R
 have HI:=hid hI
 have HC:=hid hc
 have HS:=hid (fun W p h=>step_any (m:=m) R r W p c s hfu h)
 clear hI R hc
 generalize C.step m c s r=y at HS ⊢
 go_enter Tryz.func86,Tryz.ntmps86
 go_wp2_with (go_at_call 141;refine (HS.out _ _ ?_).mono ?_;(exact PI.new HR.out (HR.out.kept HI.out (stA (stA (stA (st0 w) _) _) _)) HC.out (pcells_lit c HC.out.1 _ _ _) (by simp));rintro e w1 ⟨rfl,hP1,hm1⟩)
 obtain ⟨d8,d9,d10,d11,d12,d13,d14,_,_,d17⟩:=hP1.cells
 obtain ⟨d0,d1,d2,d3,d4,d5,d6,d7⟩:=hP1.regs
 have dl:=hP1.lt
 have hq:=fun o=>PM.cell hm1 (k:=w.heap.size+1+1) (by simp) (by omega) (Tw.third (HR.out.out HI.out (by omega)) (by decide)) o
 have hqf:=fun o=>PM.froz hm1 (k:=w.heap.size+1+1) (by simp) (by omega) (Tw.third (HR.out.out HI.out (by omega)) (by decide)) o
 have hql:w.heap.size+1+1 < w1.heap.size:=by omega
 have HY1:=hid hP1
 have HM1:=hid hm1
 clear hP1 hm1
 have hrg:w1.rangeAt (w.heap.size+1+1+1) 0 (cpuLC y.c):=fun j v hj=>by
  have hj':j < 15:=(List.getElem?_eq_some_iff.1 hj).1
  have hc:j=0 \/ j=1 \/ j=2 \/ j=3 \/ j=4 \/ j=5 \/ j=6 \/ j=7 \/ j=8 \/ j=9 \/ j=10 \/ j=11 \/ j=12 \/ j=13 \/ j=14:=by omega
  rcases hc with rfl | rfl | rfl | rfl | rfl | rfl | rfl | rfl | rfl | rfl | rfl | rfl | rfl | rfl | rfl <;> cases hj <;> assumption
 have hth:w1.there (w.heap.size+1+1) 0 15:=fun j hj=>by
  have hW:∀ (W:World) (cs:Array Value) (t:TypeId) (o:Obj),W.heap.size=w.heap.size+1+1->cs.size=15->(((W.alloc (.cells cs t)).alloc o).cell? ⟨w.heap.size+1+1,0+j,none⟩).isSome=true/\((W.alloc (.cells cs t)).alloc o).frozen? ⟨w.heap.size+1+1,0+j,none⟩=false:=fun W cs t o hs hc=>by
   have:=World.there_alloc (there_new W cs t 15 hc) o j hj
   rwa [hs] at this
  rw [hq,hqf]
  exact hW _ _ _ _ (by simp) rfl
 have HK0:w1.drew.cell? ⟨w.heap.size+1+1+1,0,none⟩=some (.int .u16 (y.c.r 0))/\w1.drew.cell? ⟨w.heap.size+1+1+1,1,none⟩=some (.int .u16 (y.c.r 1))/\w1.drew.cell? ⟨w.heap.size+1+1+1,2,none⟩=some (.int .u16 (y.c.r 2))/\w1.drew.cell? ⟨w.heap.size+1+1+1,3,none⟩=some (.int .u16 (y.c.r 3))/\w1.drew.cell? ⟨w.heap.size+1+1+1,4,none⟩=some (.int .u16 (y.c.r 4))/\w1.drew.cell? ⟨w.heap.size+1+1+1,5,none⟩=some (.int .u16 (y.c.r 5))/\w1.drew.cell? ⟨w.heap.size+1+1+1,6,none⟩=some (.int .u16 (y.c.r 6))/\w1.drew.cell? ⟨w.heap.size+1+1+1,7,none⟩=some (.int .u16 (y.c.r 7))/\w1.drew.cell? ⟨w.heap.size+1+1+1,8,none⟩=some (.int .u16 y.c.PC)/\w1.drew.cell? ⟨w.heap.size+1+1+1,9,none⟩=some (.bool y.c.Z)/\w1.drew.cell? ⟨w.heap.size+1+1+1,10,none⟩=some (.bool y.c.N)/\w1.drew.cell? ⟨w.heap.size+1+1+1,11,none⟩=some (.bool y.c.C)/\w1.drew.cell? ⟨w.heap.size+1+1+1,12,none⟩=some (.bool y.c.V)/\w1.drew.cell? ⟨w.heap.size+1+1+1,13,none⟩=some (.bool y.c.May)/\w1.drew.cell? ⟨w.heap.size+1+1+1,14,none⟩=some (.bool y.c.Waits)/\w1.drew.cell? ⟨w.heap.size+1+1+1,17,none⟩=some (.int .i64 y.n):=drew16 _ (w.heap.size+1+1+1) y ⟨d0,d1,d2,d3,d4,d5,d6,d7,d8,d9,d10,d11,d12,d13,d14,d17⟩
 have HK1:∀ W:World,(W.cell? ⟨w.heap.size+1+1+1,0,none⟩=some (.int .u16 (y.c.r 0))/\W.cell? ⟨w.heap.size+1+1+1,1,none⟩=some (.int .u16 (y.c.r 1))/\W.cell? ⟨w.heap.size+1+1+1,2,none⟩=some (.int .u16 (y.c.r 2))/\W.cell? ⟨w.heap.size+1+1+1,3,none⟩=some (.int .u16 (y.c.r 3))/\W.cell? ⟨w.heap.size+1+1+1,4,none⟩=some (.int .u16 (y.c.r 4))/\W.cell? ⟨w.heap.size+1+1+1,5,none⟩=some (.int .u16 (y.c.r 5))/\W.cell? ⟨w.heap.size+1+1+1,6,none⟩=some (.int .u16 (y.c.r 6))/\W.cell? ⟨w.heap.size+1+1+1,7,none⟩=some (.int .u16 (y.c.r 7))/\W.cell? ⟨w.heap.size+1+1+1,8,none⟩=some (.int .u16 y.c.PC)/\W.cell? ⟨w.heap.size+1+1+1,9,none⟩=some (.bool y.c.Z)/\W.cell? ⟨w.heap.size+1+1+1,10,none⟩=some (.bool y.c.N)/\W.cell? ⟨w.heap.size+1+1+1,11,none⟩=some (.bool y.c.C)/\W.cell? ⟨w.heap.size+1+1+1,12,none⟩=some (.bool y.c.V)/\W.cell? ⟨w.heap.size+1+1+1,13,none⟩=some (.bool y.c.May)/\W.cell? ⟨w.heap.size+1+1+1,14,none⟩=some (.bool y.c.Waits)/\W.cell? ⟨w.heap.size+1+1+1,17,none⟩=some (.int .i64 y.n))->((W.setCells (w.heap.size+1+1) 0 (cpuLC y.c)).cell? ⟨w.heap.size+1+1+1,0,none⟩=some (.int .u16 (y.c.r 0))/\(W.setCells (w.heap.size+1+1) 0 (cpuLC y.c)).cell? ⟨w.heap.size+1+1+1,1,none⟩=some (.int .u16 (y.c.r 1))/\(W.setCells (w.heap.size+1+1) 0 (cpuLC y.c)).cell? ⟨w.heap.size+1+1+1,2,none⟩=some (.int .u16 (y.c.r 2))/\(W.setCells (w.heap.size+1+1) 0 (cpuLC y.c)).cell? ⟨w.heap.size+1+1+1,3,none⟩=some (.int .u16 (y.c.r 3))/\(W.setCells (w.heap.size+1+1) 0 (cpuLC y.c)).cell? ⟨w.heap.size+1+1+1,4,none⟩=some (.int .u16 (y.c.r 4))/\(W.setCells (w.heap.size+1+1) 0 (cpuLC y.c)).cell? ⟨w.heap.size+1+1+1,5,none⟩=some (.int .u16 (y.c.r 5))/\(W.setCells (w.heap.size+1+1) 0 (cpuLC y.c)).cell? ⟨w.heap.size+1+1+1,6,none⟩=some (.int .u16 (y.c.r 6))/\(W.setCells (w.heap.size+1+1) 0 (cpuLC y.c)).cell? ⟨w.heap.size+1+1+1,7,none⟩=some (.int .u16 (y.c.r 7))/\(W.setCells (w.heap.size+1+1) 0 (cpuLC y.c)).cell? ⟨w.heap.size+1+1+1,8,none⟩=some (.int .u16 y.c.PC)/\(W.setCells (w.heap.size+1+1) 0 (cpuLC y.c)).cell? ⟨w.heap.size+1+1+1,9,none⟩=some (.bool y.c.Z)/\(W.setCells (w.heap.size+1+1) 0 (cpuLC y.c)).cell? ⟨w.heap.size+1+1+1,10,none⟩=some (.bool y.c.N)/\(W.setCells (w.heap.size+1+1) 0 (cpuLC y.c)).cell? ⟨w.heap.size+1+1+1,11,none⟩=some (.bool y.c.C)/\(W.setCells (w.heap.size+1+1) 0 (cpuLC y.c)).cell? ⟨w.heap.size+1+1+1,12,none⟩=some (.bool y.c.V)/\(W.setCells (w.heap.size+1+1) 0 (cpuLC y.c)).cell? ⟨w.heap.size+1+1+1,13,none⟩=some (.bool y.c.May)/\(W.setCells (w.heap.size+1+1) 0 (cpuLC y.c)).cell? ⟨w.heap.size+1+1+1,14,none⟩=some (.bool y.c.Waits)/\(W.setCells (w.heap.size+1+1) 0 (cpuLC y.c)).cell? ⟨w.heap.size+1+1+1,17,none⟩=some (.int .i64 y.n)):=fun W ⟨e0,e1,e2,e3,e4,e5,e6,e7,e8,e9,e10,e11,e12,e13,e14,e17⟩=>by
  have hout:∀ (i:Nat) (u:Value),W.cell? ⟨w.heap.size+1+1+1,i,none⟩=some u->(W.setCells (w.heap.size+1+1) 0 (cpuLC y.c)).cell? ⟨w.heap.size+1+1+1,i,none⟩=some u:=fun i u h=>(World.cell?_setCells_out _ _ _ _ _ (fun e=>by simp at e)).trans h
  exact ⟨hout _ _ e0,hout _ _ e1,hout _ _ e2,hout _ _ e3,hout _ _ e4,hout _ _ e5,hout _ _ e6,hout _ _ e7,hout _ _ e8,hout _ _ e9,hout _ _ e10,hout _ _ e11,hout _ _ e12,hout _ _ e13,hout _ _ e14,hout _ _ e17⟩
 have HK2:(w1.setCells (w.heap.size+1+1) 0 (cpuLC y.c)).drew.cell? ⟨w.heap.size+1+1+1,0,none⟩=some (.int .u16 (y.c.r 0))/\(w1.setCells (w.heap.size+1+1) 0 (cpuLC y.c)).drew.cell? ⟨w.heap.size+1+1+1,1,none⟩=some (.int .u16 (y.c.r 1))/\(w1.setCells (w.heap.size+1+1) 0 (cpuLC y.c)).drew.cell? ⟨w.heap.size+1+1+1,2,none⟩=some (.int .u16 (y.c.r 2))/\(w1.setCells (w.heap.size+1+1) 0 (cpuLC y.c)).drew.cell? ⟨w.heap.size+1+1+1,3,none⟩=some (.int .u16 (y.c.r 3))/\(w1.setCells (w.heap.size+1+1) 0 (cpuLC y.c)).drew.cell? ⟨w.heap.size+1+1+1,4,none⟩=some (.int .u16 (y.c.r 4))/\(w1.setCells (w.heap.size+1+1) 0 (cpuLC y.c)).drew.cell? ⟨w.heap.size+1+1+1,5,none⟩=some (.int .u16 (y.c.r 5))/\(w1.setCells (w.heap.size+1+1) 0 (cpuLC y.c)).drew.cell? ⟨w.heap.size+1+1+1,6,none⟩=some (.int .u16 (y.c.r 6))/\(w1.setCells (w.heap.size+1+1) 0 (cpuLC y.c)).drew.cell? ⟨w.heap.size+1+1+1,7,none⟩=some (.int .u16 (y.c.r 7))/\(w1.setCells (w.heap.size+1+1) 0 (cpuLC y.c)).drew.cell? ⟨w.heap.size+1+1+1,8,none⟩=some (.int .u16 y.c.PC)/\(w1.setCells (w.heap.size+1+1) 0 (cpuLC y.c)).drew.cell? ⟨w.heap.size+1+1+1,9,none⟩=some (.bool y.c.Z)/\(w1.setCells (w.heap.size+1+1) 0 (cpuLC y.c)).drew.cell? ⟨w.heap.size+1+1+1,10,none⟩=some (.bool y.c.N)/\(w1.setCells (w.heap.size+1+1) 0 (cpuLC y.c)).drew.cell? ⟨w.heap.size+1+1+1,11,none⟩=some (.bool y.c.C)/\(w1.setCells (w.heap.size+1+1) 0 (cpuLC y.c)).drew.cell? ⟨w.heap.size+1+1+1,12,none⟩=some (.bool y.c.V)/\(w1.setCells (w.heap.size+1+1) 0 (cpuLC y.c)).drew.cell? ⟨w.heap.size+1+1+1,13,none⟩=some (.bool y.c.May)/\(w1.setCells (w.heap.size+1+1) 0 (cpuLC y.c)).drew.cell? ⟨w.heap.size+1+1+1,14,none⟩=some (.bool y.c.Waits)/\(w1.setCells (w.heap.size+1+1) 0 (cpuLC y.c)).drew.cell? ⟨w.heap.size+1+1+1,17,none⟩=some (.int .i64 y.n):=drew16 _ (w.heap.size+1+1+1) y (HK1 w1 ⟨d0,d1,d2,d3,d4,d5,d6,d7,d8,d9,d10,d11,d12,d13,d14,d17⟩)
 have z0:w1.cell? ⟨w.heap.size+1+1,0,none⟩=some (.int .u16 0):=(hq 0).trans (qz _ _ _ _ _ (by simp))
 have z1:w1.cell? ⟨w.heap.size+1+1,1,none⟩=some (.int .u16 0):=(hq 1).trans (qz _ _ _ _ _ (by simp))
 have z2:w1.cell? ⟨w.heap.size+1+1,2,none⟩=some (.int .u16 0):=(hq 2).trans (qz _ _ _ _ _ (by simp))
 have z3:w1.cell? ⟨w.heap.size+1+1,3,none⟩=some (.int .u16 0):=(hq 3).trans (qz _ _ _ _ _ (by simp))
 have z4:w1.cell? ⟨w.heap.size+1+1,4,none⟩=some (.int .u16 0):=(hq 4).trans (qz _ _ _ _ _ (by simp))
 have z5:w1.cell? ⟨w.heap.size+1+1,5,none⟩=some (.int .u16 0):=(hq 5).trans (qz _ _ _ _ _ (by simp))
 have z6:w1.cell? ⟨w.heap.size+1+1,6,none⟩=some (.int .u16 0):=(hq 6).trans (qz _ _ _ _ _ (by simp))
 have z7:w1.cell? ⟨w.heap.size+1+1,7,none⟩=some (.int .u16 0):=(hq 7).trans (qz _ _ _ _ _ (by simp))
 have z8:w1.cell? ⟨w.heap.size+1+1,8,none⟩=some (.int .u16 0):=(hq 8).trans (qz _ _ _ _ _ (by simp))
 have z9:w1.cell? ⟨w.heap.size+1+1,9,none⟩=some (.bool false):=(hq 9).trans (qz _ _ _ _ _ (by simp))
 have z10:w1.cell? ⟨w.heap.size+1+1,10,none⟩=some (.bool false):=(hq 10).trans (qz _ _ _ _ _ (by simp))
 have z11:w1.cell? ⟨w.heap.size+1+1,11,none⟩=some (.bool false):=(hq 11).trans (qz _ _ _ _ _ (by simp))
 have z12:w1.cell? ⟨w.heap.size+1+1,12,none⟩=some (.bool false):=(hq 12).trans (qz _ _ _ _ _ (by simp))
 have z13:w1.cell? ⟨w.heap.size+1+1,13,none⟩=some (.bool false):=(hq 13).trans (qz _ _ _ _ _ (by simp))
 have z14:w1.cell? ⟨w.heap.size+1+1,14,none⟩=some (.bool false):=(hq 14).trans (qz _ _ _ _ _ (by simp))
 have zf:∀ o,w1.frozen? ⟨w.heap.size+1+1,o,none⟩=false:=fun o=>(hqf o).trans (qzf _ _ _ _ _ (by simp))
 have HTH:=hid hth
 clear HK1
 clear d0 d1 d2 d3 d4 d5 d6 d7 d8 d9 d10 d11 d12 d13 d14 d17 hrg hth hq hqf
 go_region_held3 (fun w'=>w'.cell? ⟨w.heap.size+1+1+1,0,none⟩=some (.int .u16 (y.c.r 0))/\w'.cell? ⟨w.heap.size+1+1+1,1,none⟩=some (.int .u16 (y.c.r 1))/\w'.cell? ⟨w.heap.size+1+1+1,2,none⟩=some (.int .u16 (y.c.r 2))/\w'.cell? ⟨w.heap.size+1+1+1,3,none⟩=some (.int .u16 (y.c.r 3))/\w'.cell? ⟨w.heap.size+1+1+1,4,none⟩=some (.int .u16 (y.c.r 4))/\w'.cell? ⟨w.heap.size+1+1+1,5,none⟩=some (.int .u16 (y.c.r 5))/\w'.cell? ⟨w.heap.size+1+1+1,6,none⟩=some (.int .u16 (y.c.r 6))/\w'.cell? ⟨w.heap.size+1+1+1,7,none⟩=some (.int .u16 (y.c.r 7))/\w'.cell? ⟨w.heap.size+1+1+1,8,none⟩=some (.int .u16 y.c.PC)/\w'.cell? ⟨w.heap.size+1+1+1,9,none⟩=some (.bool y.c.Z)/\w'.cell? ⟨w.heap.size+1+1+1,10,none⟩=some (.bool y.c.N)/\w'.cell? ⟨w.heap.size+1+1+1,11,none⟩=some (.bool y.c.C)/\w'.cell? ⟨w.heap.size+1+1+1,12,none⟩=some (.bool y.c.V)/\w'.cell? ⟨w.heap.size+1+1+1,13,none⟩=some (.bool y.c.May)/\w'.cell? ⟨w.heap.size+1+1+1,14,none⟩=some (.bool y.c.Waits)/\w'.cell? ⟨w.heap.size+1+1+1,17,none⟩=some (.int .i64 y.n))
  (first | with_reducible exact HK0 | (rw [nested_eq];with_reducible exact HK2))
  (fail)
 go_wp2
 have hT:¬ Tw T w1 y.s (w.heap.size+1+1):=fun ht=>by
  rcases HM1.out.fresh _ (Or.inr ht) with (x | x) | x
  ·omega
  ·exact Tw.third (HR.out.out HI.out (by omega)) (by decide) x
  ·simp at x
   omega
 have h0:=PM.gone HM1.out (w:=w) (stA (stA (stA (stA (st0 w) _) _) _) _) (HR.out.big HI.out) (by omega) HY1.out.ownW
 have hB:=HR.out.big HI.out
 rw [nested_eq]
 refine cutB (fun W=>I W y.s/\Mv B (Tw T w s) (Tw T W y.s) w W/\W.rangeAt (w.heap.size+1+1) 0 (cpuLC y.c)) (endK HR.out (cpuLC y.c) HY1.out.inv h0 hT (by omega) HTH.out hB) ?_
 rintro W ⟨hI,hm,hr⟩
 have hl:=load_cpu W _ y.c hr
 exact bodyPost_ret (v:=.tuple #[cpuV y.c,.int .i64 y.n]) (by simp only [results,Tryz.results86];simp;show (Result.andThen (Sem.run Tryz.prog (loadVar 25 ⟨w.heap.size+1+1,0,none⟩) W) fun a w'=>Result.ok (Value.tuple #[a,Value.int IntKind.i64 y.n]) w')=_;rw [hl];rfl) rfl ⟨rfl,hI,hm,HY1.out.ok⟩
end
theorem or_one:∀ s:Nat,s < 256->bits .or .u8 (((s:Int) * 2) % 256) 1=(((s:Int) * 2) % 256)+1:=by decide +kernel
theorem or_one' (s:Int) (h:0<=s/\s<=255):bits .or .u8 (s * 2 % 256) 1=s * 2 % 256+1:=by
 obtain ⟨k,rfl⟩:=Int.eq_ofNat_of_zero_le h.1
 exact or_one k (by omega)
theorem and_one:∀ s:Nat,s < 256->bits .and .u8 (s:Int) 1=(s:Int) % 2:=by decide +kernel
theorem and_one' (s:Int) (h:0<=s/\s<=255):bits .and .u8 s 1=s % 2:=by
 obtain ⟨k,rfl⟩:=Int.eq_ofNat_of_zero_le h.1
 exact and_one k (by omega)
def odd (x:Int):Bool:=x % 2 == 1
theorem info_pad:(Tryz.prog.info? 28).map (·.size)=some 3:=by kernel_rfl
theorem load_pad (W:World) (q:Nat) (d s:Int) (l:Bool) (h:W.rangeAt q 0 [.int .u8 d,.bool l,.int .u8 s]):(loadVar 28 ⟨q,0,none⟩).run Tryz.prog W = .ok (.agg #[.int .u8 d,.bool l,.int .u8 s]) W :=
 run_loadVar_mid W q 0 28 _ _ h Tryz.underlying28 rfl info_pad
theorem follow_any (d s:Int) (l:Bool) (w:World) :
 Calls Tryz.prog 138 #[.agg #[.int .u8 d,.bool l,.int .u8 s]] w fun e w'=>e = .returned (.agg #[.int .u8 d,.bool l,.int .u8 (sel l d s)])/\Below w.heap.size w w':=by
 cases l
 all_goals
  go_enter Tryz.func138,Tryz.ntmps138
  go_wp2
  refine bodyPost_ret (v:=.agg _) (by simp [results,Tryz.results138,go_sem,sel]) rfl ⟨rfl,?_⟩
  exact stA (stA (st0 _) _) _
theorem press_any (d s x:Int) (l:Bool) (w:World) :
 Calls Tryz.prog 84 #[.agg #[.int .u8 d,.bool l,.int .u8 s],.int .u8 x] w fun e w'=>e = .returned (.agg #[.int .u8 x,.bool l,.int .u8 (sel l x s)])/\Below w.heap.size w w':=by
 go_enter Tryz.func84,Tryz.ntmps84
 go_wp2_with (go_at_call 138;refine (follow_any _ _ _ _).mono ?_;rintro e w1 ⟨rfl,hb1⟩;obtain ⟨k1,f1⟩:=bcell hb1;have z1:w.heap.size+1 < w1.heap.size:=Nat.lt_of_lt_of_le (by simp) hb1.size)
 have hF:=Pl.fin [.int .u8 x,.bool l,.int .u8 (sel l x s)] (Pl.there_new _ _ _ 3 (w.heap.size+1) (by simp) rfl) (stA (stA (st0 w) _) _) hb1 (by simp) (by omega)
 exact bodyPost_ret (v:=.agg _) (by simp only [results,Tryz.results84];simp;exact load_pad _ _ _ _ _ hF.2) rfl ⟨rfl,hF.1⟩
theorem write_any (d s x:Int) (l:Bool) (w:World) (hx:0<=x/\x<=255) :
 Calls Tryz.prog 162 #[.agg #[.int .u8 d,.bool l,.int .u8 s],.int .u8 x] w fun e w'=>e = .returned (.agg #[.int .u8 d,.bool (odd x),.int .u8 (sel (odd x) d s)])/\Below w.heap.size w w':=by
 have ha:(bits .and .u8 x 1 == 1)=odd x:=by rw [and_one' x hx];rfl
 go_enter Tryz.func162,Tryz.ntmps162
 go_wp2_with (go_at_call 138;refine (follow_any _ _ _ _).mono ?_;rintro e w1 ⟨rfl,hb1⟩;obtain ⟨k1,f1⟩:=bcell hb1;have z1:w.heap.size+1 < w1.heap.size:=Nat.lt_of_lt_of_le (by simp) hb1.size)
 have hF:=Pl.fin [.int .u8 d,.bool (odd x),.int .u8 (sel (odd x) d s)] (Pl.there_new _ _ _ 3 (w.heap.size+1) (by simp) rfl) (stA (stA (st0 w) _) _) hb1 (by simp) (by omega)
 exact bodyPost_ret (v:=.agg _) (by simp only [results,Tryz.results162];simp;exact load_pad _ _ _ _ _ hF.2) rfl ⟨rfl,hF.1⟩
theorem read_pad (d s:Int) (l:Bool) (w:World) (hd:0<=d/\d<=255) (hs:0<=s/\s<=255) :
 Calls Tryz.prog 161 #[.agg #[.int .u8 d,.bool l,.int .u8 s]] w fun e w'=>e = .returned (.tuple #[.int .u8 (sel l d s / 128),.agg #[.int .u8 d,.bool l,.int .u8 (sel l s (s * 2 % 256+1))]])/\Below w.heap.size w w':=by
 have ho:=or_one' s hs
 cases l
 ·go_enter Tryz.func161,Tryz.ntmps161
  go_wp2
  go_region_held3 (fun w'=>w'.cell? ⟨w.heap.size,0,none⟩=some (.int .u8 d)/\w'.cell? ⟨w.heap.size,1,none⟩=some (.bool false)/\w'.cell? ⟨w.heap.size,2,none⟩=some (.int .u8 (s * 2 % 256+1)))
   ((go_keep;done))
   (fail)
  go_wp2
  refine bodyPost_ret (v:=.tuple #[_,.agg _]) (by simp [results,Tryz.results161,go_sem,sel]) rfl ⟨rfl,?_⟩
  exact (stA (stA (st0 _) _) _).drew
 ·go_enter Tryz.func161,Tryz.ntmps161
  go_wp2
  go_region_held3 (fun w'=>w'.cell? ⟨w.heap.size,0,none⟩=some (.int .u8 d)/\w'.cell? ⟨w.heap.size,1,none⟩=some (.bool true)/\w'.cell? ⟨w.heap.size,2,none⟩=some (.int .u8 s))
   ((go_keep;done))
   (fail)
  go_wp2
  refine bodyPost_ret (v:=.tuple #[_,.agg _]) (by simp [results,Tryz.results161,go_sem,sel]) rfl ⟨rfl,?_⟩
  exact (stA (stA (st0 _) _) _).drew
def shN (d:Int) (k:Nat):Int:=(d * 2 ^ k+(2 ^ k - 1)) % 256
theorem Pl.res {P:Program} {b o:Nat} {t:TypeId} {Y:World} {v:Value} (h:(loadVar t ⟨b,o,none⟩).run P Y = .ok v Y) :
 ((Sem.run P (asAddr (Value.pointer (some ⟨b,o,none⟩))) Y).andThen fun a w'=>Sem.run P (loadVar t a) w') = .ok v Y:=h
/-! ### plain numbers -/
structure TM where
 r:Int
 c:Int
 on:Bool
 g:Bool
def tkC (r c:Int) (on:Bool):Int:=if on then (if c=0 then r else c - 1) else c
def tkG (c:Int) (on g:Bool):Bool:=if on then (if c=0 then true else g) else g
/-! ### the package -/
theorem info_timer:(Tryz.prog.info? 31).map (·.size)=some 4:=by kernel_rfl
theorem load_timer (W:World) (q:Nat) (r c:Int) (on g:Bool) (h:W.rangeAt q 0 [.int .u16 r,.int .u16 c,.bool on,.bool g]):(loadVar 31 ⟨q,0,none⟩).run Tryz.prog W = .ok (.agg #[.int .u16 r,.int .u16 c,.bool on,.bool g]) W :=
 run_loadVar_mid W q 0 31 _ _ h Tryz.underlying31 rfl info_timer
structure Vc where
 p:Int
 c:Int
 l:Int
 h:Bool
 n:Int
def nz (n:Int):Int:=if n % 2=1 then bits .xor .u16 (n / 2) 46080 else n / 2
def swH (h:Bool) (n:Int):Bool:=if n=0 then !h else decide (n % 2=1)
def swN (n:Int):Int:=if n=0 then 0 else nz n
def swsN (n:Int):Nat->Int
 | 0=>n
 | k+1=>swN (swsN n k)
def swsH (h:Bool) (n:Int):Nat->Bool
 | 0=>h
 | k+1=>swH (swsH h n k) (swsN n k)
def Vc.tick (v:Vc):Vc:=if v.c=0 then ⟨v.p,v.p,v.l,swH v.h v.n,swN v.n⟩ else ⟨v.p,v.c - 1,v.l,v.h,v.n⟩
def Vc.ticks (v:Vc):Nat->Vc
 | 0=>v
 | k+1=>(v.ticks k).tick
def ltC (p c n:Int):Int:=if n < c+1 then c - n else p - (n - (c+1)) % (p+1)
def ltK (p c n:Int):Nat:=if n < c+1 then 0 else (1+(n - (c+1)) / (p+1)).toNat
def Vc.later (v:Vc) (n:Int):Vc:=⟨v.p,ltC v.p v.c n,v.l,swsH v.h v.n (ltK v.p v.c n),swsN v.n (ltK v.p v.c n)⟩
structure Vc.ok (v : Vc) : Prop where
 p:0<=v.p/\v.p<=65535
 c:0<=v.c/\v.c<=65535
 l:0<=v.l/\v.l<=255
 n:0<=v.n/\v.n<=65535
theorem mod_step (m k:Int) (hm:0<=m) (hk:0 < k):(m+1) % k=(if m % k=k - 1 then 0 else m % k+1)/\(m+1) / k=(if m % k=k - 1 then m / k+1 else m / k):=by
 have h1:=Int.emod_nonneg m (show k ≠ 0 by omega)
 have h2:=Int.emod_lt_of_pos m hk
 have e0:=Int.emod_add_mul_ediv m k
 have e:m+1=(m % k+1)+k * (m / k):=by omega
 split
 ·rename_i h
  have e2:m+1=0+k * (m / k+1):=by rw [Int.mul_add];omega
  rw [e2,Int.add_mul_emod_self_left,Int.add_mul_ediv_left _ _ (by omega)]
  simp
 ·rw [e,Int.add_mul_emod_self_left,Int.add_mul_ediv_left _ _ (by omega),Int.emod_eq_of_lt (by omega) (by omega),Int.ediv_eq_zero_of_lt (by omega) (by omega)]
  simp
theorem nz_bd (n:Int) (h:0<=n/\n<=65535):0<=nz n/\nz n<=65535:=by
 unfold nz
 split
 ·exact M.xor_bd _ _ (by omega) (by omega) (by omega) (by omega)
 ·omega
theorem nz_ne (n:Int) (h:0<=n/\n<=65535) (h0:n ≠ 0):nz n ≠ 0:=by
 unfold nz
 split
 ·obtain ⟨X,hX⟩:=Int.eq_ofNat_of_zero_le (show 0<=n / 2 by omega)
  rw [hX,show (46080:Int)=((46080:Nat):Int) from rfl,u16_xor_nat _ _ (by omega) (by omega)]
  have hb:(X ^^^ 46080).testBit 15=true:=by
   rw [Nat.testBit_xor,M.top X (by omega),M.top 46080 (by omega),decide_eq_false (show ¬ 32768<=X by omega)]
   rfl
  intro e
  have e':X ^^^ 46080=0:=by omega
  rw [e'] at hb
  simp at hb
 ·omega
theorem swN_bd (n:Int) (h:0<=n/\n<=65535):0<=swN n/\swN n<=65535:=by
 unfold swN;split
 ·omega
 ·exact nz_bd n h
theorem swsN_bd (n:Int) (h:0<=n/\n<=65535) (k:Nat):0<=swsN n k/\swsN n k<=65535:=by
 induction k with
 | zero=>exact h
 | succ k ih=>exact swN_bd _ ih
theorem swsN_zero (k:Nat):swsN 0 k=0:=by
 induction k with
 | zero=>rfl
 | succ k ih=>rw [swsN,ih];rfl
theorem swsN_ne (n:Int) (h:0<=n/\n<=65535) (h0:n ≠ 0) (k:Nat):swsN n k ≠ 0:=by
 induction k with
 | zero=>exact h0
 | succ k ih =>
  rw [swsN];unfold swN
  rw [if_neg ih]
  exact nz_ne _ (swsN_bd n h k) ih
theorem swsH_zero (h:Bool) (k:Nat):swsH h 0 k=(h != (k % 2 == 1)):=by
 induction k with
 | zero=>simp [swsH]
 | succ k ih =>
  rw [swsH,swsN_zero,ih]
  unfold swH
  rw [if_pos rfl]
  by_cases h2:k % 2=1
  ·have h3:(k+1) % 2=0:=by omega
   rw [h2,h3];cases h <;> rfl
  ·have h3:(k+1) % 2=1:=by omega
   have h4:k % 2=0:=by omega
   rw [h4,h3];cases h <;> rfl
theorem Vc.tick_ok {v:Vc} (h:v.ok):v.tick.ok:=by
 unfold Vc.tick
 split
 ·exact ⟨h.p,h.p,h.l,swN_bd _ h.n⟩
 ·exact ⟨h.p,⟨by have:=h.c;simp only;omega,by have:=h.c;simp only;omega⟩,h.l,h.n⟩
theorem Vc.later_tick (v:Vc) (h:v.ok) (n:Int) (hn:0<=n):(v.later n).tick=v.later (n+1):=by
 obtain ⟨p,c,l,hi,ns⟩:=v
 obtain ⟨hp,hc,hl,hns⟩:=h
 simp only at hp hc hl hns
 unfold Vc.tick Vc.later
 simp only
 by_cases h1:n+1 < c+1
 ·have h2:n < c+1:=by omega
  have e1:ltC p c n=c - n:=by unfold ltC;rw [if_pos h2]
  have e2:ltC p c (n+1)=c - n - 1:=by unfold ltC;rw [if_pos h1];omega
  have e3:ltK p c n=0:=by unfold ltK;rw [if_pos h2]
  have e4:ltK p c (n+1)=0:=by unfold ltK;rw [if_pos h1]
  rw [e1,e2,e3,e4,if_neg (by omega)]
 ·by_cases h2:n < c+1
  ·have e1:ltC p c n=0:=by unfold ltC;rw [if_pos h2];omega
   have e5:n+1 - (c+1)=0:=by omega
   have e2:ltC p c (n+1)=p:=by unfold ltC;rw [if_neg h1,e5];simp
   have e3:ltK p c n=0:=by unfold ltK;rw [if_pos h2]
   have e4:ltK p c (n+1)=1:=by unfold ltK;rw [if_neg h1,e5];simp
   rw [e1,e2,e3,e4,if_pos rfl]
   rfl
  ·have e:n+1 - (c+1)=(n - (c+1))+1:=by omega
   obtain ⟨s1,s2⟩:=mod_step (n - (c+1)) (p+1) (by omega) (by omega)
   have b1:=Int.emod_nonneg (n - (c+1)) (show p+1 ≠ 0 by omega)
   have b2:=Int.emod_lt_of_pos (n - (c+1)) (show 0 < p+1 by omega)
   have b3:0<=(n - (c+1)) / (p+1):=Int.ediv_nonneg (by omega) (by omega)
   have e1:ltC p c n=p - (n - (c+1)) % (p+1):=by unfold ltC;rw [if_neg h2]
   have e3:ltK p c n=(1+(n - (c+1)) / (p+1)).toNat:=by unfold ltK;rw [if_neg h2]
   have e2:ltC p c (n+1)=p - (n - (c+1)+1) % (p+1):=by unfold ltC;rw [if_neg h1,e]
   have e4:ltK p c (n+1)=(1+(n - (c+1)+1) / (p+1)).toNat:=by unfold ltK;rw [if_neg h1,e]
   by_cases h6:(n - (c+1)) % (p+1)=p
   ·rw [s1,if_pos (by omega)] at e2
    rw [s2,if_pos (by omega)] at e4
    have e5:ltK p c (n+1)=ltK p c n+1:=by rw [e3,e4];omega
    rw [e2,e5,e1,if_pos (by omega)]
    simp [swsH,swsN]
   ·rw [s1,if_neg (by omega)] at e2
    rw [s2,if_neg (by omega)] at e4
    have e5:ltK p c (n+1)=ltK p c n:=by rw [e3,e4]
    rw [e2,e5,e1,if_neg (by omega)]
    simp;omega
theorem Vc.later_zero (v:Vc) (h:v.ok):v.later 0=v:=by
 have hc:=h.c
 have e1:ltC v.p v.c 0=v.c:=by unfold ltC;rw [if_pos (by omega)];omega
 have e2:ltK v.p v.c 0=0:=by unfold ltK;rw [if_pos (by omega)]
 unfold Vc.later
 rw [e1,e2]
 rfl
theorem Vc.later_ticks (v:Vc) (h:v.ok) (n:Nat):v.later n=v.ticks n:=by
 induction n with
 | zero=>exact v.later_zero h
 | succ n ih=>rw [Vc.ticks,<- ih,Vc.later_tick v h n (by omega)];simp
/-! ### sounds -/
structure Sd where
 a:Vc
 b:Vc
 c:Vc
 w:Int
structure Sd.ok (s : Sd) : Prop where
 a:s.a.ok
 b:s.b.ok
 c:s.c.ok
structure Sd.fit (s : Sd) : Prop extends s.ok where
 w:0<=s.w/\s.w<=15
def Sd.tick (s:Sd):Sd:=⟨s.a.tick,s.b.tick,s.c.tick,if s.w=0 then 15 else s.w - 1⟩
def Sd.ticks (s:Sd):Nat->Sd
 | 0=>s
 | k+1=>(s.ticks k).tick
def ld (v:Vc):Int:=if v.h then v.l % 16 else 0
def smI (s:Sd):Int:=ld s.a+ld s.b+ld s.c
def sm (s:Sd):UInt8:=UInt8.ofNat (smI s).toNat
def one (s:Sd):List UInt8:=if s.w=0 then [sm s] else []
def sms (s:Sd):Nat->List UInt8
 | 0=>[]
 | k+1=>sms s k++one (s.ticks k)
theorem ld_bd (v:Vc):0<=ld v/\ld v<=15:=by unfold ld;split <;> omega
theorem smI_bd (s:Sd):0<=smI s/\smI s<=45:=by
 have:=ld_bd s.a;have:=ld_bd s.b;have:=ld_bd s.c
 unfold smI;omega
theorem sm_nat (s:Sd):((sm s).toNat:Int)=smI s:=by
 have:=smI_bd s
 unfold sm
 rw [UInt8.toNat_ofNat']
 omega
theorem Sd.tick_fit {s:Sd} (h:s.fit):s.tick.fit:=by
 refine ⟨⟨Vc.tick_ok h.a,Vc.tick_ok h.b,Vc.tick_ok h.c⟩,?_⟩
 have:=h.w
 unfold Sd.tick
 simp only
 split <;> omega
theorem Sd.ticks_fit {s:Sd} (h:s.fit) (k:Nat):(s.ticks k).fit:=by
 induction k with
 | zero=>exact h
 | succ k ih=>exact Sd.tick_fit ih
theorem Sd.ticks_add (s:Sd) (a b:Nat):(s.ticks a).ticks b=s.ticks (a+b):=by
 induction b with
 | zero=>rfl
 | succ b ih=>rw [Sd.ticks,ih];rfl
theorem sms_add (s:Sd) (a b:Nat):sms s (a+b)=sms s a++sms (s.ticks a) b:=by
 induction b with
 | zero=>simp [sms]
 | succ b ih =>
  show sms s (a+b)++one (s.ticks (a+b))=_
  rw [ih,<- Sd.ticks_add,List.append_assoc]
  rfl
theorem sms_len (s:Sd) (k:Nat):(sms s k).length<=k:=by
 induction k with
 | zero=>simp [sms]
 | succ k ih =>
  simp only [sms,List.length_append]
  have:(one (s.ticks k)).length<=1:=by unfold one;split <;> simp
  omega
theorem Sd.ticks_parts (s:Sd) (k:Nat):(s.ticks k).a=s.a.ticks k/\(s.ticks k).b=s.b.ticks k/\(s.ticks k).c=s.c.ticks k:=by
 induction k with
 | zero=>exact ⟨rfl,rfl,rfl⟩
 | succ k ih=>exact ⟨by show (s.ticks k).a.tick=_;rw [ih.1];rfl,by show (s.ticks k).b.tick=_;rw [ih.2.1];rfl,by show (s.ticks k).c.tick=_;rw [ih.2.2];rfl⟩
def wt (s:Sd):Int:=if s.w=0 then 16 else s.w
theorem Sd.near {s:Sd} (h:s.fit) (m:Nat) (h1:1<=m) (hm:(m:Int)<=wt s):(s.ticks m).w=wt s - m/\sms s m=one s:=by
 have hw:=h.w
 induction m with
 | zero=>omega
 | succ m ih =>
  by_cases h0:m=0
  ·subst h0
   refine ⟨?_,by simp [sms,Sd.ticks]⟩
   unfold wt
   simp only [Sd.ticks,Sd.tick]
   by_cases hz:s.w=0 <;> simp [hz]
  ·obtain ⟨e1,e2⟩:=ih (by omega) (by omega)
   have e3:(s.ticks m).w ≠ 0:=by rw [e1];omega
   refine ⟨?_,?_⟩
   ·simp only [Sd.ticks,Sd.tick]
    rw [if_neg e3,e1];omega
   ·rw [sms,e2];unfold one;rw [if_neg e3];simp
def Sd.go (s:Sd) (m:Int):Sd:=⟨s.a.later m,s.b.later m,s.c.later m,wt s - m⟩
theorem Sd.go_ticks {s:Sd} (h:s.fit) (m:Nat) (h1:1<=m) (hm:(m:Int)<=wt s):s.go m=s.ticks m:=by
 obtain ⟨e1,e2,e3⟩:=Sd.ticks_parts s m
 unfold Sd.go
 rw [Vc.later_ticks _ h.a,Vc.later_ticks _ h.b,Vc.later_ticks _ h.c,<- (Sd.near h m h1 hm).1,<- e1,<- e2,<- e3]
theorem wt_bd {s:Sd} (h:s.fit):1<=wt s/\wt s<=16:=by have:=h.w;unfold wt;split <;> omega
theorem sms_count {s:Sd} (h:s.fit) (n:Nat):((sms s n).length:Int)=(if s.w < n then (n - s.w - 1) / 16+1 else 0)/\(s.ticks n).w=(if (n:Int)<=s.w then s.w - n else 15 - (n - s.w - 1) % 16):=by
 have hw:=h.w
 induction n with
 | zero=>simp [sms,Sd.ticks];omega
 | succ n ih =>
  obtain ⟨i1,i2⟩:=ih
  have hf:=(Sd.ticks_fit h n).w
  simp only [sms,List.length_append,Sd.ticks,Sd.tick]
  by_cases hz:(s.ticks n).w=0
  ·have:(one (s.ticks n)).length=1:=by unfold one;rw [if_pos hz];rfl
   rw [this,if_pos hz]
   rw [hz] at i2
   constructor
   ·split at i2 <;> split at i1 <;> split <;> omega
   ·split at i2 <;> split <;> omega
  ·have:(one (s.ticks n)).length=0:=by unfold one;rw [if_neg hz];rfl
   rw [this,if_neg hz]
   constructor
   ·split at i2 <;> split at i1 <;> split <;> omega
   ·split at i2 <;> split <;> omega
end Go.Proofs.YtbhpfkjfijdmaaaGreatDoor
