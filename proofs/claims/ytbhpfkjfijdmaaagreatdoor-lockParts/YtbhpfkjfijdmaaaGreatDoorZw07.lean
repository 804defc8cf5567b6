/-
  Parts of a proof, joined.
-/
import Derived.Test.YtbhpfkjfijdmaaaGreatDoorRows
import Derived.Test.YtbhpfkjfijdmaaaGreatDoorZw00
import Derived.WalkKit
import Derived.ProofKit
import Derived.OpenShut
import Derived.WalkSpells
import Derived.Outline
import Derived.Below
import Derived.Deep.Strs
import Derived.Deep.RegionHeld3
import Derived.Deep.QuietTactic
import Derived.BigQuiet
import Derived.Laws.StructEq
import Derived.Deep.MidRow
import Derived.Deep.Fields
import Derived.Lib.Builder
import Derived.Deep.RegionWith
import Derived.Test.YtbhpfkjfijdmaaaGreatDoorZw01
import Derived.Test.YtbhpfkjfijdmaaaGreatDoorZw06
import Derived.Test.YtbhpfkjfijdmaaaGreatDoorZw02
namespace Go.Proofs.YtbhpfkjfijdmaaaGreatDoor
open Go.ChangeShapes Go.WideShapes Go.ChangeAt Go.RowKit
set_option linter.unusedVariables false
set_option maxRecDepth 100000
set_option maxHeartbeats 1600000
def sel (l:Bool) (a b:Int):Int:=if l then a else b
theorem sel_ind {P:Int->Prop} (l:Bool) {a b:Int} (ha:P a) (hb:P b):P (sel l a b):=by cases l <;> assumption
theorem Pl.new (w:World) (cs:Array Value) (t:TypeId) (b:Nat) (h:b=w.heap.size) {k:Nat}:(w.alloc (.cells cs t)).cell? ⟨b,k,none⟩=cs[k]?:=by subst h;exact World.cell?_alloc_new ..
theorem Pl.there_new (w:World) (cs:Array Value) (t:TypeId) (n b:Nat) (hb:b=w.heap.size) (h:cs.size=n):(w.alloc (.cells cs t)).there b 0 n:=fun j hj=>by
 subst hb
 refine ⟨?_,Lib.frozen_of_heap (heap_alloc_new w _) _⟩
 rw [Pl.new _ _ _ _ rfl,Array.getElem?_eq_getElem (by omega)]
 rfl
theorem Pl.there_old {w w':World} {b n:Nat} (h:w.there b 0 n) (hb:Below w.heap.size w w') (hlt:b < w.heap.size):w'.there b 0 n:=fun j hj=>by
 have:=h j hj
 rw [hb.cell (p:=⟨b,0+j,none⟩) hlt,hb.frozen (p:=⟨b,0+j,none⟩) hlt]
 exact this
theorem Pl.below {n:Nat} {a:World} {b:Nat} (hb:n<=b):∀ (vs:List Value) (o:Nat) (w:World),Below n a w->Below n a (w.setCells b o vs)
 | [],o,w,h=>h
 | v :: vs,o,w,h=>Pl.below hb vs (o+1) _ (h.setCell hb v)
theorem Pl.fin {w w0 w1:World} {b:Nat} (L:List Value) (hth:w0.there b 0 L.length) (hb0:Below w.heap.size w w0) (hb1:Below w0.heap.size w0 w1) (hlt:b < w0.heap.size) (hw:w.heap.size<=b):Below w.heap.size w (w1.setCells b 0 L)/\(w1.setCells b 0 L).rangeAt b 0 L :=
 ⟨Pl.below hw L 0 w1 (stp hb0 hb1),World.rangeAt_setCells_same w1 b 0 L (Pl.there_old hth hb1 hlt)⟩
theorem Pl.cutW {P:Program} {code:Code} {Q:Exit->Act->World->Prop} {a:Act} {w:World} (K:World->Prop) (h:K w) (k:∀ w',K w'->code.wp P Q a w'):code.wp P Q a w:=k w h
theorem Pl.cutB {P:Program} {fn:Func} {R:Ending->World->Prop} {e:Exit} {a:Act} {w:World} (K:World->Prop) (h:K w) (k:∀ w',K w'->bodyPost P fn R e a w'):bodyPost P fn R e a w:=k w h
theorem Pl.spot {w:World} {a:Addr} {v:Value} (h:w.cell? a=some v):a.spot=none:=by
 unfold World.cell? at h
 split at h
 ·split at h
  ·cases h
  ·rename_i hs
   cases hh:a.spot with
   | none=>rfl
   | some x=>rw [hh] at hs;simp at hs
 ·cases h
def isAt (k:IntKind) (w:World) (v:Value) (l:List Int):Prop:=(∃ a cap,v = .slice a 0 cap/\l=[]) \/ ∃ g o cap,v = .slice (some ⟨g,o,none⟩) l.length cap/\g < w.heap.size /\ ∀ j x,l[j]? = some x->w.cell? ⟨g,o+j,none⟩=some (.int k x)
theorem isAt.kept {k:IntKind} {w w':World} {v:Value} {l:List Int} (h:isAt k w v l) (hb:Below w.heap.size w w'):isAt k w' v l:=by
 rcases h with h | ⟨g,o,cap,h1,h3,h4⟩
 ·exact Or.inl h
 ·exact Or.inr ⟨g,o,cap,h1,Nat.lt_of_lt_of_le h3 hb.size,fun j x hj=>(hb.cell (p:=⟨g,o+j,none⟩) h3).trans (h4 j x hj)⟩
theorem ret_v {a b:Value} (h:a=b):Ending.returned a = .returned b:=by rw [h]
theorem xA {α:Type} {l:List α} {i:Nat} {a:α}:l.toArray.setIfInBounds i a=(l.set i a).toArray:=List.setIfInBounds_toArray _ _ _
theorem xB {α:Type} {a b:α} {l:List α}:(a :: l).set 0 b=b :: l:=List.set_cons_zero
theorem xC {α:Type} {a b:α} {l:List α} {n:Nat}:(a :: l).set (n+1) b=a :: l.set n b:=List.set_cons_succ
structure Mv (B : Nat) (T T' : Nat -> Prop) (w w' : World) : Prop where
 below:Below B w w'
 block:∀ k,k < w.heap.size->¬ T k->w'.heap[k]? = w.heap[k]?
 fresh:∀ k,T' k->T k \/ w.heap.size<=k
section
variable {B : Nat} {T T' T'' : Nat -> Prop} {a b c w w' : World}
theorem Mv.size (h:Mv B T T' w w'):w.heap.size<=w'.heap.size:=h.below.size
theorem Mv.refl (B:Nat) (T:Nat->Prop) (w:World):Mv B T T w w:=⟨Below.refl _ _,fun _ _ _=>rfl,fun _ h=>Or.inl h⟩
theorem Mv.trans (h:Mv B T T' a b) (k:Mv B T' T'' b c):Mv B T T'' a c :=
 ⟨h.below.trans k.below,fun i hi ht=>(k.block i (Nat.lt_of_lt_of_le hi h.size) (fun ht'=>by rcases h.fresh i ht' with x | x;exact ht x;omega)).trans (h.block i hi ht),
   fun i hi=>by
    rcases k.fresh i hi with x | x
    ·exact h.fresh i x
    ·exact Or.inr (Nat.le_trans h.size x)⟩
theorem Mv.of_below (hB:B<=w.heap.size) (h:Below w.heap.size w w'):Mv B T T w w':=⟨h.mono hB,fun k hk _=>h.block k hk,fun _ h=>Or.inl h⟩
theorem Mv.alloc (h:Mv B T T' w w') (hB:B<=w.heap.size) (o:Obj):Mv B T T' w (w'.alloc o) :=
 ⟨h.below.alloc (Nat.le_trans hB h.size) o,fun k hk ht=>(Below.heap_alloc _ _ _ (Nat.lt_of_lt_of_le hk h.size)).trans (h.block k hk ht),h.fresh⟩
theorem Mv.drew (h:Mv B T T' w w'):Mv B T T' w w'.drew:=⟨h.below.drew,h.block,h.fresh⟩
theorem Mv.drewN (h:Mv B T T' w w') (n:Nat):Mv B T T' w (w'.drewN n):=⟨⟨h.below.os,h.below.tape,h.below.output,h.below.size,h.below.block⟩,h.block,h.fresh⟩
theorem Mv.setCell (h:Mv B T T' w w') {p:Addr} (hB:B<=p.block) (hp:T p.block \/ w.heap.size<=p.block) (u:Value):Mv B T T' w (w'.setCell p u) :=
 ⟨h.below.setCell hB u,fun k hk ht=>(Below.heap_setCell _ _ _ _ (fun e=>by subst e;rcases hp with x | x;exact ht x;omega)).trans (h.block k hk ht),h.fresh⟩
theorem Mv.cell (h:Mv B T T' w w') {k:Nat} (hk:k < w.heap.size) (ht:¬ T k) (o:Nat):w'.cell? ⟨k,o,none⟩=w.cell? ⟨k,o,none⟩:=World.cell?_of_block (w:=w) (h.block k hk ht)
theorem Mv.froz (h:Mv B T T' w w') {k:Nat} (hk:k < w.heap.size) (ht:¬ T k) (o:Nat):w'.frozen? ⟨k,o,none⟩=w.frozen? ⟨k,o,none⟩:=World.frozen?_of_block (w:=w) (h.block k hk ht)
theorem Mv.also (h:Mv B T T' w w') (p:Nat):Mv B (fun k=>k=p \/ T k) (fun k=>k=p \/ T' k) w w' :=
 ⟨h.below,fun k hk ht=>h.block k hk (fun x=>ht (Or.inr x)),fun k hk=>by
   rcases hk with x | x
   ·exact Or.inl (Or.inl x)
   ·rcases h.fresh k x with y | y
    ·exact Or.inl (Or.inr y)
    ·exact Or.inr y⟩
end
theorem cutW {P:Program} {code:Code} {Q:Exit->Act->World->Prop} {a:Act} {w:World} (K:World->Prop) (h:K w) (k:∀ w',K w'->code.wp P Q a w'):code.wp P Q a w:=k w h
abbrev fw (n:Nat) (cs:Array Value × Array Value):Value:=.func (.func n) cs.1 cs.2
abbrev fv (n:Nat) (cs:Array Value):Value:=.func (.func n) #[] cs
def Tw {σ:Type} (T:σ->Nat->Prop) (w:World) (s:σ) (k:Nat):Prop:=T s k \/ ∃ cs fr,w.heap[k]? = some (.cells cs 62 fr)
structure RS {σ : Type} (m : C.Mem σ) (B : Nat) (nr nw : Nat) (cr cw : Array Value × Array Value) (I : World -> σ -> Prop) (T : σ -> Nat -> Prop) : Prop where
 lt:∀ {w s},I w s->∀ k,T s k->k < w.heap.size
 keep:∀ {w w' s},I w s->w.heap.size<=w'.heap.size->(∀ k,Tw T w s k->w'.heap[k]? = w.heap[k]?)->I w' s
 shapes:∀ {w s},I w s->shapesAt w
 gT:∀ {s},T s 1
 byte:∀ s a,0<=(m.rd s a).1/\(m.rd s a).1<=255
 frd:∀ s a,m.fuel s<=m.fuel (m.rd s a).2
 fwr:∀ s a b,m.fuel s<=m.fuel (m.wr s a b)+1
 big:∀ {w s},I w s->B<=w.heap.size
 read:∀ w s (a:Int),0<=a->a<=65535->I w s->Calls Tryz.prog 132 #[.agg #[fw nr cr,fw nw cw],.int .u16 a] w fun e w'=>e = .returned (.int .u8 (m.rd s a).1)/\I w' (m.rd s a).2/\Mv B (Tw T w s) (Tw T w' (m.rd s a).2) w w'
 write:∀ w s (a b:Int),0<=a->a<=65535->0<=b->b<=255->1<=m.fuel s->I w s->Calls Tryz.prog 216 #[.agg #[fw nr cr,fw nw cw],.int .u16 a,.int .u8 b] w fun e w'=>e = .returned (.tuple #[])/\I w' (m.wr s a b)/\Mv B (Tw T w s) (Tw T w' (m.wr s a b)) w w'
theorem Mv.weak {B:Nat} {T T' T'':Nat->Prop} {w w':World} (h:Mv B T T' w w') (hT:∀ k,T'' k->T' k \/ w.heap.size<=k):Mv B T T'' w w' :=
 ⟨h.below,h.block,fun k hk=>(hT k hk).elim (h.fresh k) Or.inr⟩
section
variable {σ : Type} {T : σ -> Nat -> Prop} {w w' : World} {s : σ} {k : Nat}
theorem Tw.same (e:w'.heap[k]? = w.heap[k]?) (h:Tw T w' s k):Tw T w s k:=h.imp id (fun ⟨cs,fr,x⟩=>⟨cs,fr,by rw [<- e];exact x⟩)
theorem Tw.of (h:¬ T s k) {cs:Array Value} {t:TypeId} {fr:Nat × Nat} (e:w.heap[k]? = some (.cells cs t fr)) (ht:t ≠ 62):¬ Tw T w s k:=fun hx=>hx.elim h (fun ⟨cs',fr',x⟩=>by
 rw [e] at x
 simp only [Option.some.injEq,Obj.cells.injEq] at x
 exact ht x.2.1)
theorem Tw.set {a:Addr} {v:Value} (h:Tw T (w.setCell a v) s k):Tw T w s k:=h.imp id (fun ⟨cs,fr,x⟩=>by
 simp only [World.setCell,Array.getElem?_modify] at x
 split at x
 ·revert x
  cases w.heap[k]? with
  | none=>intro x;cases x
  | some o =>
   cases o <;> intro x <;> simp at x <;> (obtain ⟨_,rfl,_⟩:=x;exact ⟨_,_,rfl⟩)
 ·exact ⟨cs,fr,x⟩)
theorem Tw.sets {b:Nat}:∀ {vs:List Value} {o:Nat} {w:World},Tw T (w.setCells b o vs) s k->Tw T w s k
 | [],o,w,h=>h
 | v :: vs,o,w,h=>Tw.set (Tw.sets (vs:=vs) h)
theorem Tw.low (hb:Below w.heap.size w w') (h:Tw T w' s k):Tw T w s k \/ w.heap.size<=k:=by
 rcases Nat.lt_or_ge k w.heap.size with hk | hk
 ·exact Or.inl (h.same (hb.block k hk))
 ·exact Or.inr hk
theorem Tw.lt (hl:∀ k,T s k->k < w.heap.size) (h:Tw T w s k):k < w.heap.size:=h.elim (hl k) (fun ⟨cs,fr,x⟩=>(Array.getElem?_eq_some_iff.1 x).1)
end
def cpuCells (c:C.Cpu):List Value:=c.R.map (Value.int .u16)++[.int .u16 c.PC,.bool c.Z,.bool c.N,.bool c.C,.bool c.V,.bool c.May,.bool c.Waits]
def pcells (c:C.Cpu) (fr fw:Value) (n:Int):Array Value:=(cpuCells c++[fr,fw,.int .i64 n]).toArray
abbrev cpuV (c:C.Cpu):Value:=.agg #[.int .u16 (c.r 0),.int .u16 (c.r 1),.int .u16 (c.r 2),.int .u16 (c.r 3),.int .u16 (c.r 4),.int .u16 (c.r 5),.int .u16 (c.r 6),.int .u16 (c.r 7),.int .u16 c.PC,.bool c.Z,.bool c.N,.bool c.C,.bool c.V,.bool c.May,.bool c.Waits]
theorem reg8 {l:List Int} (h:l.length=8):∃ a0 a1 a2 a3 a4 a5 a6 a7,l=[a0,a1,a2,a3,a4,a5,a6,a7]:=by
 match l,h with
 | [a0,a1,a2,a3,a4,a5,a6,a7],_=>exact ⟨a0,a1,a2,a3,a4,a5,a6,a7,rfl⟩
section
variable {σ : Type} {m : C.Mem σ} {B nr nw : Nat} {cr cw : Array Value × Array Value} {I : World -> σ -> Prop} {T : σ -> Nat -> Prop}
structure PI (B : Nat) (nr nw : Nat) (cr cw : Array Value × Array Value) (I : World -> σ -> Prop) (T : σ -> Nat -> Prop) (w : World) (p : Nat) (x : C.St σ) : Prop where
 inv:I w x.s
 own:¬ T x.s p
 big:B<=p
 blk:w.heap[p]? = some (.cells (pcells x.c (fw nr cr) (fw nw cw) x.n) 217 (0,0))
 ok:x.c.ok
def PM (B:Nat) (T:σ->Nat->Prop) (p:Nat) (s s':σ) (w w':World):Prop:=Mv B (fun k=>k=p \/ Tw T w s k) (fun k=>k=p \/ Tw T w' s' k) w w'
theorem PI.lt {w:World} {p:Nat} {x:C.St σ} (h:PI B nr nw cr cw I T w p x):p < w.heap.size:=(Array.getElem?_eq_some_iff.1 h.blk).1
theorem PI.ownW {w:World} {p:Nat} {x:C.St σ} (h:PI B nr nw cr cw I T w p x):¬ Tw T w x.s p:=Tw.of h.own h.blk (by decide)
theorem PI.frozen {w:World} {p:Nat} {x:C.St σ} (h:PI B nr nw cr cw I T w p x) (i:Nat):w.frozen? ⟨p,i,none⟩=false:=Lib.frozen_of_heap h.blk i
theorem pcells_at {c:C.Cpu} (hc:c.R.length=8) (fr fw:Value) (n:Int) :
 (∀ i:Nat,i < 8->(pcells c fr fw n)[i]? = some (.int .u16 (c.r i)))/\(pcells c fr fw n)[8]? = some (.int .u16 c.PC)/\(pcells c fr fw n)[9]? = some (.bool c.Z)/\(pcells c fr fw n)[10]? = some (.bool c.N)/\(pcells c fr fw n)[11]? = some (.bool c.C) /\
  (pcells c fr fw n)[12]? = some (.bool c.V)/\(pcells c fr fw n)[13]? = some (.bool c.May)/\(pcells c fr fw n)[14]? = some (.bool c.Waits)/\(pcells c fr fw n)[15]? = some fr/\(pcells c fr fw n)[16]? = some fw/\(pcells c fr fw n)[17]? = some (.int .i64 n):=by
 obtain ⟨a0,a1,a2,a3,a4,a5,a6,a7,h⟩:=reg8 hc
 unfold pcells cpuCells C.Cpu.r
 rw [h]
 refine ⟨fun i hi=>?_,rfl,rfl,rfl,rfl,rfl,rfl,rfl,rfl,rfl,rfl⟩
 have:i=0 \/ i=1 \/ i=2 \/ i=3 \/ i=4 \/ i=5 \/ i=6 \/ i=7:=by omega
 rcases this with rfl | rfl | rfl | rfl | rfl | rfl | rfl | rfl <;> rfl
theorem PI.reg {w:World} {p:Nat} {x:C.St σ} (h:PI B nr nw cr cw I T w p x) (i:Nat) (hi:i < 8):w.cell? ⟨p,i,none⟩=some (.int .u16 (x.c.r i)):=by
 rw [Lib.cell_of_heap h.blk i];exact (pcells_at h.ok.1 _ _ _).1 i hi
theorem PI.cells {w:World} {p:Nat} {x:C.St σ} (h:PI B nr nw cr cw I T w p x) :
 w.cell? ⟨p,8,none⟩=some (.int .u16 x.c.PC)/\w.cell? ⟨p,9,none⟩=some (.bool x.c.Z)/\w.cell? ⟨p,10,none⟩=some (.bool x.c.N)/\w.cell? ⟨p,11,none⟩=some (.bool x.c.C)/\w.cell? ⟨p,12,none⟩=some (.bool x.c.V) /\
  w.cell? ⟨p,13,none⟩=some (.bool x.c.May)/\w.cell? ⟨p,14,none⟩=some (.bool x.c.Waits)/\w.cell? ⟨p,15,none⟩=some (fw nr cr)/\w.cell? ⟨p,16,none⟩=some (fw nw cw)/\w.cell? ⟨p,17,none⟩=some (.int .i64 x.n):=by
 have e:=fun i=>Lib.cell_of_heap h.blk i
 obtain ⟨_,h8,h9,h10,h11,h12,h13,h14,h15,h16,h17⟩:=pcells_at h.ok.1 (fw nr cr) (fw nw cw) x.n
 exact ⟨(e 8).trans h8,(e 9).trans h9,(e 10).trans h10,(e 11).trans h11,(e 12).trans h12,(e 13).trans h13,(e 14).trans h14,(e 15).trans h15,(e 16).trans h16,(e 17).trans h17⟩
theorem PI.regs {w:World} {p:Nat} {x:C.St σ} (h:PI B nr nw cr cw I T w p x) :
 w.cell? ⟨p,0,none⟩=some (.int .u16 (x.c.r 0))/\w.cell? ⟨p,1,none⟩=some (.int .u16 (x.c.r 1))/\w.cell? ⟨p,2,none⟩=some (.int .u16 (x.c.r 2))/\w.cell? ⟨p,3,none⟩=some (.int .u16 (x.c.r 3)) /\
  w.cell? ⟨p,4,none⟩=some (.int .u16 (x.c.r 4))/\w.cell? ⟨p,5,none⟩=some (.int .u16 (x.c.r 5))/\w.cell? ⟨p,6,none⟩=some (.int .u16 (x.c.r 6))/\w.cell? ⟨p,7,none⟩=some (.int .u16 (x.c.r 7)) :=
 ⟨h.reg 0 (by omega),h.reg 1 (by omega),h.reg 2 (by omega),h.reg 3 (by omega),h.reg 4 (by omega),h.reg 5 (by omega),h.reg 6 (by omega),h.reg 7 (by omega)⟩
theorem setCell_blk {w:World} {b i:Nat} {cs:Array Value} {t:TypeId} {fr:Nat × Nat} (h:w.heap[b]? = some (.cells cs t fr)) (v:Value):(w.setCell ⟨b,i,none⟩ v).heap[b]? = some (.cells (cs.setIfInBounds i v) t fr):=by
 simp [World.setCell,Array.getElem?_modify,h]
theorem setCell_size (w:World) (a:Addr) (v:Value):(w.setCell a v).heap.size=w.heap.size:=by simp [World.setCell]
theorem PI.put (R:RS m B nr nw cr cw I T) {w:World} {p:Nat} {x:C.St σ} (h:PI B nr nw cr cw I T w p x) (i:Nat) (v:Value) (c':C.Cpu) (n':Int) (hok:c'.ok) (hc:(pcells x.c (fw nr cr) (fw nw cw) x.n).setIfInBounds i v=pcells c' (fw nr cr) (fw nw cw) n') :
 PI B nr nw cr cw I T (w.setCell ⟨p,i,none⟩ v) p ⟨c',x.s,n'⟩ :=
 ⟨R.keep h.inv (by rw [setCell_size];exact Nat.le_refl _) (fun k hk=>Below.heap_setCell _ _ _ _ (fun e=>h.ownW (by have e':k=p:=e;rw [<- e'];exact hk))),h.own,h.big,by rw [setCell_blk h.blk,hc],hok⟩
theorem pcells_reg {c:C.Cpu} (hc:c.R.length=8) (fr fw:Value) (n:Int) (i:Nat) (hi:i < 8) (x:Int):(pcells c fr fw n).setIfInBounds i (.int .u16 x)=pcells (c.set i x) fr fw n:=by
 obtain ⟨a0,a1,a2,a3,a4,a5,a6,a7,h⟩:=reg8 hc
 unfold pcells cpuCells C.Cpu.set
 rw [h]
 have:i=0 \/ i=1 \/ i=2 \/ i=3 \/ i=4 \/ i=5 \/ i=6 \/ i=7:=by omega
 rcases this with rfl | rfl | rfl | rfl | rfl | rfl | rfl | rfl <;> rfl
theorem pcells_set {c:C.Cpu} (hc:c.R.length=8) (fr fw:Value) (n:Int) :
 (∀ x,(pcells c fr fw n).setIfInBounds 8 (.int .u16 x)=pcells { c with PC:=x } fr fw n)/\(∀ x,(pcells c fr fw n).setIfInBounds 9 (.bool x)=pcells { c with Z:=x } fr fw n)/\(∀ x,(pcells c fr fw n).setIfInBounds 10 (.bool x)=pcells { c with N:=x } fr fw n) /\
 (∀ x,(pcells c fr fw n).setIfInBounds 11 (.bool x)=pcells { c with C:=x } fr fw n)/\(∀ x,(pcells c fr fw n).setIfInBounds 12 (.bool x)=pcells { c with V:=x } fr fw n)/\(∀ x,(pcells c fr fw n).setIfInBounds 13 (.bool x)=pcells { c with May:=x } fr fw n) /\
 (∀ x,(pcells c fr fw n).setIfInBounds 14 (.bool x)=pcells { c with Waits:=x } fr fw n)/\(∀ x,(pcells c fr fw n).setIfInBounds 17 (.int .i64 x)=pcells c fr fw x):=by
 obtain ⟨a0,a1,a2,a3,a4,a5,a6,a7,h⟩:=reg8 hc
 unfold pcells cpuCells
 rw [h]
 exact ⟨fun _=>rfl,fun _=>rfl,fun _=>rfl,fun _=>rfl,fun _=>rfl,fun _=>rfl,fun _=>rfl,fun _=>rfl⟩
variable {w : World} {p : Nat} {x : C.St σ}
theorem PI.putR (R:RS m B nr nw cr cw I T) (h:PI B nr nw cr cw I T w p x) (i:Nat) (hi:i < 8) (v:Int) (h0:0<=v) (h1:v<=65535):PI B nr nw cr cw I T (w.setCell ⟨p,i,none⟩ (.int .u16 v)) p ⟨x.c.set i v,x.s,x.n⟩ :=
 h.put R i _ _ _ (C.Cpu.ok_set h.ok _ _ h0 h1) (pcells_reg h.ok.1 _ _ _ i hi v)
theorem PI.putPC (R:RS m B nr nw cr cw I T) (h:PI B nr nw cr cw I T w p x) (v:Int) (h0:0<=v) (h1:v<=65535):PI B nr nw cr cw I T (w.setCell ⟨p,8,none⟩ (.int .u16 v)) p ⟨{ x.c with PC:=v },x.s,x.n⟩ :=
 h.put R 8 _ _ _ (C.Cpu.ok_pc h.ok v h0 h1) ((pcells_set h.ok.1 _ _ _).1 v)
theorem PI.putZ (R:RS m B nr nw cr cw I T) (h:PI B nr nw cr cw I T w p x) (v:Bool):PI B nr nw cr cw I T (w.setCell ⟨p,9,none⟩ (.bool v)) p ⟨{ x.c with Z:=v },x.s,x.n⟩:=h.put R 9 _ _ _ h.ok ((pcells_set h.ok.1 _ _ _).2.1 v)
theorem PI.putN (R:RS m B nr nw cr cw I T) (h:PI B nr nw cr cw I T w p x) (v:Bool):PI B nr nw cr cw I T (w.setCell ⟨p,10,none⟩ (.bool v)) p ⟨{ x.c with N:=v },x.s,x.n⟩:=h.put R 10 _ _ _ h.ok ((pcells_set h.ok.1 _ _ _).2.2.1 v)
theorem PI.putC (R:RS m B nr nw cr cw I T) (h:PI B nr nw cr cw I T w p x) (v:Bool):PI B nr nw cr cw I T (w.setCell ⟨p,11,none⟩ (.bool v)) p ⟨{ x.c with C:=v },x.s,x.n⟩:=h.put R 11 _ _ _ h.ok ((pcells_set h.ok.1 _ _ _).2.2.2.1 v)
theorem PI.putV (R:RS m B nr nw cr cw I T) (h:PI B nr nw cr cw I T w p x) (v:Bool):PI B nr nw cr cw I T (w.setCell ⟨p,12,none⟩ (.bool v)) p ⟨{ x.c with V:=v },x.s,x.n⟩:=h.put R 12 _ _ _ h.ok ((pcells_set h.ok.1 _ _ _).2.2.2.2.1 v)
theorem PI.putMay (R:RS m B nr nw cr cw I T) (h:PI B nr nw cr cw I T w p x) (v:Bool):PI B nr nw cr cw I T (w.setCell ⟨p,13,none⟩ (.bool v)) p ⟨{ x.c with May:=v },x.s,x.n⟩:=h.put R 13 _ _ _ h.ok ((pcells_set h.ok.1 _ _ _).2.2.2.2.2.1 v)
theorem PI.putWaits (R:RS m B nr nw cr cw I T) (h:PI B nr nw cr cw I T w p x) (v:Bool):PI B nr nw cr cw I T (w.setCell ⟨p,14,none⟩ (.bool v)) p ⟨{ x.c with Waits:=v },x.s,x.n⟩:=h.put R 14 _ _ _ h.ok ((pcells_set h.ok.1 _ _ _).2.2.2.2.2.2.1 v)
theorem PI.putCyc (R:RS m B nr nw cr cw I T) (h:PI B nr nw cr cw I T w p x) (v:Int):PI B nr nw cr cw I T (w.setCell ⟨p,17,none⟩ (.int .i64 v)) p ⟨x.c,x.s,v⟩:=h.put R 17 _ _ _ h.ok ((pcells_set h.ok.1 _ _ _).2.2.2.2.2.2.2 v)
theorem PI.kept (R:RS m B nr nw cr cw I T) (h:PI B nr nw cr cw I T w p x) {w':World} (hb:Below w.heap.size w w'):PI B nr nw cr cw I T w' p x :=
 ⟨R.keep h.inv hb.size (fun k hk=>hb.block k (hk.lt (R.lt h.inv))),h.own,h.big,(hb.block p h.lt).trans h.blk,h.ok⟩
theorem PI.moved (h:PI B nr nw cr cw I T w p x) {w':World} {s':σ} (hI:I w' s') (hm:Mv B (Tw T w x.s) (Tw T w' s') w w'):PI B nr nw cr cw I T w' p ⟨x.c,s',x.n⟩ :=
 ⟨hI,fun ht=>by rcases hm.fresh p (Or.inl ht) with y | y;exact h.ownW y;have:=h.lt;omega,h.big,(hm.block p h.lt h.ownW).trans h.blk,h.ok⟩
theorem PI.same (R:RS m B nr nw cr cw I T) (h:PI B nr nw cr cw I T w p x) {w':World} (e:w'.heap=w.heap):PI B nr nw cr cw I T w' p x :=
 ⟨R.keep h.inv (by rw [e];exact Nat.le_refl _) (fun k _=>by rw [e]),h.own,h.big,by rw [e];exact h.blk,h.ok⟩
theorem PI.movedS (R:RS m B nr nw cr cw I T) (h:PI B nr nw cr cw I T w p x) {w0 w1:World} {s':σ} (hI:I w1 s') (hm:Mv B (Tw T w0 x.s) (Tw T w1 s') w0 w1) (e:w0.heap=w.heap):PI B nr nw cr cw I T w1 p ⟨x.c,s',x.n⟩:=(h.same R e).moved hI hm
theorem PI.invS (R:RS m B nr nw cr cw I T) (h:PI B nr nw cr cw I T w p x) {w':World} (e:w'.heap=w.heap):I w' x.s:=(h.same R e).inv
theorem PI.after (h:PI B nr nw cr cw I T w p x) {w0 w1:World} {T':Nat->Prop} (hm:Mv B (Tw T w0 x.s) T' w0 w1) (e:w0.heap=w.heap):(∀ i,w1.cell? ⟨p,i,none⟩=w.cell? ⟨p,i,none⟩)/\(∀ i,w1.frozen? ⟨p,i,none⟩=false)/\p < w1.heap.size:=by
 have hb:w1.heap[p]? = w.heap[p]?:=by rw [hm.block p (by rw [e];exact h.lt) (fun y=>h.ownW (y.same (by rw [e]))),e]
 exact ⟨fun i=>World.cell?_of_block (w:=w) hb,fun i=>Lib.frozen_of_heap (hb.trans h.blk) i,Nat.lt_of_lt_of_le (by rw [e];exact h.lt) hm.size⟩
theorem PI.hB (R:RS m B nr nw cr cw I T) (h:PI B nr nw cr cw I T w p x):B<=w.heap.size:=R.big h.inv
theorem PM.refl (B:Nat) (T:σ->Nat->Prop) (p:Nat) (s:σ) (w:World):PM B T p s s w w:=Mv.refl _ _ _
theorem PM.set {s s':σ} {w w':World} (h:PM B T p s s' w w') (hB:B<=p) (i:Nat) (v:Value):PM B T p s s' w (w'.setCell ⟨p,i,none⟩ v):=(Mv.setCell h hB (Or.inl (Or.inl rfl)) v).weak (fun k hk=>Or.inl (hk.imp id Tw.set))
theorem PM.trans {s s' s'':σ} {a b c:World} (h:PM B T p s s' a b) (k:PM B T p s' s'' b c):PM B T p s s'' a c:=Mv.trans h k
theorem PM.moved {s s' s'':σ} {a b c:World} (h:PM B T p s s' a b) (k:Mv B (Tw T b s') (Tw T c s'') b c):PM B T p s s'' a c:=Mv.trans h (k.also p)
theorem PM.kept {s s':σ} {a b c:World} (h:PM B T p s s' a b) (hB:B<=b.heap.size) (k:Below b.heap.size b c):PM B T p s s' a c:=(Mv.trans h (Mv.of_below hB k)).weak (fun i hi=>hi.elim (fun e=>Or.inl (Or.inl e)) (fun y=>(y.low k).elim (fun z=>Or.inl (Or.inr z)) (fun z=>Or.inr (Nat.le_trans (Mv.size h) z))))
theorem PM.drew {s s':σ} {w w':World} (h:PM B T p s s' w w'):PM B T p s s' w w'.drew:=Mv.drew h
theorem PM.alloc {s s':σ} {w w':World} (h:PM B T p s s' w w') (hB:B<=w.heap.size) (o:Obj):PM B T p s s' w (w'.alloc o):=(Mv.alloc h hB o).weak (fun i hi=>hi.elim (fun e=>Or.inl (Or.inl e)) (fun y=>(y.low (stA (st0 w') o)).elim (fun z=>Or.inl (Or.inr z)) (fun z=>Or.inr (Nat.le_trans (Mv.size h) z))))
theorem PM.cell {s s':σ} {w w':World} (h:PM B T p s s' w w') {k:Nat} (hk:k < w.heap.size) (hp:k ≠ p) (ht:¬ Tw T w s k) (o:Nat):w'.cell? ⟨k,o,none⟩=w.cell? ⟨k,o,none⟩:=Mv.cell h hk (fun e=>e.elim hp ht) o
theorem PM.froz {s s':σ} {w w':World} (h:PM B T p s s' w w') {k:Nat} (hk:k < w.heap.size) (hp:k ≠ p) (ht:¬ Tw T w s k) (o:Nat):w'.frozen? ⟨k,o,none⟩=w.frozen? ⟨k,o,none⟩:=Mv.froz h hk (fun e=>e.elim hp ht) o
end
theorem ret_i {k:IntKind} {a a':Int} (h:a=a'):Ending.returned (.int k a) = .returned (.int k a'):=by rw [h]
theorem ret_ib {k:IntKind} {a a':Int} {b b':Bool} (h:a=a') (h1:b=b'):Ending.returned (.tuple #[.int k a,.bool b]) = .returned (.tuple #[.int k a',.bool b']):=by rw [h,h1]
theorem ret_ibb {k:IntKind} {a a':Int} {b b' c c':Bool} (h:a=a') (h1:b=b') (h2:c=c'):Ending.returned (.tuple #[.int k a,.bool b,.bool c]) = .returned (.tuple #[.int k a',.bool b',.bool c']):=by rw [h,h1,h2]
theorem ret_ibi {k l:IntKind} {a a' c c':Int} {b b':Bool} (h:a=a') (h1:b=b') (h2:c=c'):Ending.returned (.tuple #[.int k a,.bool b,.int l c]) = .returned (.tuple #[.int k a',.bool b',.int l c']):=by rw [h,h1,h2]
theorem add_any (a b:Int) (w:World) (ha:0<=a) (ha':a<=65535) (hb:0<=b) (hb':b<=65535) :
 Calls Tryz.prog 282 #[.int .u16 a,.int .u16 b] w fun e w'=>e = .returned (.tuple #[.int .u16 (M.addN a b),.bool (M.addC a b),.bool (M.addV a b)])/\w'=w:=by
 go_enter Tryz.func282,Tryz.ntmps282
 go_wp2
 go_ret3
 exact ⟨ret_ibb (IntKind.wrap_u16 _) (M.carry_add a b ha ha' hb hb') (M.over_add a b ha ha' hb hb'),rfl⟩
theorem sub_any (a b:Int) (w:World) (ha:0<=a) (ha':a<=65535) (hb:0<=b) (hb':b<=65535) :
 Calls Tryz.prog 283 #[.int .u16 a,.int .u16 b] w fun e w'=>e = .returned (.tuple #[.int .u16 (M.subN a b),.bool (M.subC a b),.bool (M.subV a b)])/\w'=w:=by
 go_enter Tryz.func283,Tryz.ntmps283
 go_wp2
 go_ret3
 exact ⟨ret_ibb (IntKind.wrap_u16 _) rfl (M.over_sub a b ha ha' hb hb'),rfl⟩
theorem mul_any (a b:Int) (w:World) (ha:0<=a) (ha':a<=65535) (hb:0<=b) (hb':b<=65535) :
 Calls Tryz.prog 289 #[.int .u16 a,.int .u16 b] w fun e w'=>e = .returned (.tuple #[.int .u16 (M.mulN a b),.bool (M.mulC a b)])/\w'=w:=by
 have hm:=M.mul_bd a b ha ha' hb hb'
 go_enter Tryz.func289,Tryz.ntmps289
 go_wp2
 go_ret2
 exact ⟨ret_ib (IntKind.wrap_u16 _) (M.mul_high _ hm.1),rfl⟩
theorem bytes_any (a:Int) (w:World) (ha:0<=a) (ha':a<=65535) :
 Calls Tryz.prog 109 #[.int .u16 a] w fun e w'=>e = .returned (.tuple #[.int .u8 (a / 256),.int .u8 (a % 256)])/\w'=w:=by
 go_enter Tryz.func109,Tryz.ntmps109
 go_wp2
 go_ret2
 exact ⟨rfl,rfl⟩
theorem of_any (a b:Int) (w:World) (ha:0<=a) (ha':a<=255) (hb:0<=b) (hb':b<=255) :
 Calls Tryz.prog 133 #[.int .u8 a,.int .u8 b] w fun e w'=>e = .returned (.int .u16 (a * 256+b))/\w'=w:=by
 go_enter Tryz.func133,Tryz.ntmps133
 go_wp2
 go_ret
 exact ⟨ret_i (M.joined a b ha ha' hb hb'),rfl⟩
theorem hasBit_any (a n:Int) (w:World) (ha:0<=a) (ha':a<=65535) (hn:0<=n) (hn':n<=15) :
 Calls Tryz.prog 264 #[.int .u16 a,.int .i64 n] w fun e w'=>e = .returned (.bool (M.hasB a n))/\w'=w:=by
 go_enter Tryz.func264,Tryz.ntmps264
 go_wp2
 go_ret
 exact ⟨ret_b (M.has_of a n ha ha'),rfl⟩
theorem may_yes (n:Int) (w:World) (h:0<=n) (h':n<=15) :
 Calls Tryz.prog 263 #[.int .i64 n] w fun e w'=>e = .returned (.bool true)/\w'=w:=by
 go_enter Tryz.func263,Tryz.ntmps263
 go_wp2
 go_ret
 exact ⟨ret_b (by simp;omega),rfl⟩
theorem shl_nil (a:Int) (w:World) :
 Calls Tryz.prog 219 #[.int .u16 a,.int .i64 0] w fun e w'=>e = .returned (.tuple #[.int .u16 a,.bool false,.int .i64 0]) /\ ∃ k,w'=w.drewN k:=by
 go_enter Tryz.func219,Tryz.ntmps219
 go_wp2_with (go_at_call 263;refine (may_yes _ _ (by omega) (by omega)).mono ?_;rintro e w' ⟨rfl,rfl⟩)
 go_ret3
 exact ⟨rfl,0,rfl⟩
theorem shl_some (a n:Int) (w:World) (ha:0<=a) (ha':a<=65535) (hn:1<=n) (hn':n<=15) :
 Calls Tryz.prog 219 #[.int .u16 a,.int .i64 n] w fun e w'=>e = .returned (.tuple #[.int .u16 (M.shlN a n),.bool (M.hasB a (16 - n)),.int .i64 0]) /\ ∃ k,w'=w.drewN k:=by
 have h0:(n == 0)=false:=by simp;omega
 go_enter Tryz.func219,Tryz.ntmps219
 go_wp2_with (go_at_call 263;refine (may_yes _ _ (by omega) (by omega)).mono ?_;rintro e w' ⟨rfl,rfl⟩)
 go_quiet ((go_at_call 264;exact Calls.quiet_of_same (hasBit_any _ _ _ (by omega) (by omega) (by omega) (by omega))))
 go_wp2
 go_ret3
 exact ⟨ret_ibi rfl rfl rfl,_,rfl⟩
theorem M.shlN_nil (a:Int) (ha:0<=a) (ha':a<=65535):M.shlN a 0=a:=by unfold M.shlN;simp;omega
theorem M.shlC_some (a n:Int) (hn:1<=n):M.shlC a n=M.hasB a (16 - n):=by unfold M.shlC M.hasB;simp [hn]
theorem M.shrN_nil (a:Int):M.shrN a 0=a:=by unfold M.shrN;simp
theorem M.shrC_some (a n:Int) (hn:1<=n):M.shrC a n=M.hasB a (n - 1):=by unfold M.shrC M.hasB;simp [hn]
theorem shl_yes (a n:Int) (w:World) (ha:0<=a) (ha':a<=65535) (hn:0<=n) (hn':n<=15) :
 Calls Tryz.prog 219 #[.int .u16 a,.int .i64 n] w fun e w'=>e = .returned (.tuple #[.int .u16 (M.shlN a n),.bool (M.shlC a n),.int .i64 0]) /\ ∃ k,w'=w.drewN k:=by
 by_cases h:n=0
 ·subst h
  exact (shl_nil a w).mono fun _ _ h=>⟨h.1.trans (ret_ibi (M.shlN_nil a ha ha').symm (by simp [M.shlC]) rfl),h.2⟩
 ·exact (shl_some a n w ha ha' (by omega) hn').mono fun _ _ h=>⟨h.1.trans (ret_ibi rfl (M.shlC_some a n (by omega)).symm rfl),h.2⟩
theorem shr_nil (a:Int) (w:World) :
 Calls Tryz.prog 220 #[.int .u16 a,.int .i64 0] w fun e w'=>e = .returned (.tuple #[.int .u16 a,.bool false,.int .i64 0]) /\ ∃ k,w'=w.drewN k:=by
 go_enter Tryz.func220,Tryz.ntmps220
 go_wp2_with (go_at_call 263;refine (may_yes _ _ (by omega) (by omega)).mono ?_;rintro e w' ⟨rfl,rfl⟩)
 go_ret3
 exact ⟨rfl,0,rfl⟩
theorem shr_some (a n:Int) (w:World) (ha:0<=a) (ha':a<=65535) (hn:1<=n) (hn':n<=15) :
 Calls Tryz.prog 220 #[.int .u16 a,.int .i64 n] w fun e w'=>e = .returned (.tuple #[.int .u16 (M.shrN a n),.bool (M.hasB a (n - 1)),.int .i64 0]) /\ ∃ k,w'=w.drewN k:=by
 have h0:(n == 0)=false:=by simp;omega
 go_enter Tryz.func220,Tryz.ntmps220
 go_wp2_with (go_at_call 263;refine (may_yes _ _ (by omega) (by omega)).mono ?_;rintro e w' ⟨rfl,rfl⟩)
 go_quiet ((go_at_call 264;exact Calls.quiet_of_same (hasBit_any _ _ _ (by omega) (by omega) (by omega) (by omega))))
 go_wp2
 go_ret3
 exact ⟨ret_ibi rfl rfl rfl,_,rfl⟩
theorem shr_yes (a n:Int) (w:World) (ha:0<=a) (ha':a<=65535) (hn:0<=n) (hn':n<=15) :
 Calls Tryz.prog 220 #[.int .u16 a,.int .i64 n] w fun e w'=>e = .returned (.tuple #[.int .u16 (M.shrN a n),.bool (M.shrC a n),.int .i64 0]) /\ ∃ k,w'=w.drewN k:=by
 by_cases h:n=0
 ·subst h
  exact (shr_nil a w).mono fun _ _ h=>⟨h.1.trans (ret_ibi (M.shrN_nil a).symm (by simp [M.shrC]) rfl),h.2⟩
 ·exact (shr_some a n w ha ha' (by omega) hn').mono fun _ _ h=>⟨h.1.trans (ret_ibi rfl (M.shrC_some a n (by omega)).symm rfl),h.2⟩
section
variable {σ : Type} {m : C.Mem σ} {B nr nw : Nat} {cr cw : Array Value × Array Value} {I : World -> σ -> Prop} {T : σ -> Nat -> Prop}
theorem RS.kept (R:RS m B nr nw cr cw I T) {w w':World} {s:σ} (h:I w s) (hb:Below w.heap.size w w'):I w' s:=R.keep h hb.size (fun k hk=>hb.block k (hk.lt (R.lt h)))
theorem RS.out (R:RS m B nr nw cr cw I T) {w:World} {s:σ} (h:I w s) {k:Nat} (hk:w.heap.size<=k):¬ T s k:=fun ht=>by have:=R.lt h k ht;omega
theorem RS.outN (R:RS m B nr nw cr cw I T) {w w0:World} {s:σ} {cs:Array Value} {t:TypeId} (h:I w s) (e:w0.heap=(w.alloc (.cells cs t)).heap) (ht:t ≠ 62):¬ Tw T w0 s w.heap.size:=Tw.of (R.out h (Nat.le_refl _)) (by rw [e];exact heap_alloc_new w _) ht
theorem RS.box (R:RS m B nr nw cr cw I T) {w w1:World} {s:σ} {cs:Array Value} {t:TypeId} {T':Nat->Prop} (h:I w s) (hm:Mv B (Tw T (w.alloc (.cells cs t)) s) T' (w.alloc (.cells cs t)) w1) (ht:t ≠ 62:=by decide):w.heap.size < w1.heap.size /\ ∀ o,w1.cell? ⟨w.heap.size,o,none⟩=cs[o]?:=by
 refine ⟨by have:=hm.size;simp at this;omega,fun o=>?_⟩
 rw [hm.cell (by simp) (R.outN h rfl ht) o]
 exact cell_new _ _ _ _ rfl
theorem Mv.unbox {B:Nat} {T:σ->Nat->Prop} {s:σ} {T':Nat->Prop} {w w':World} {o:Obj} (h:Mv B (Tw T (w.alloc o) s) T' (w.alloc o) w') (hB:B<=w.heap.size):Mv B (Tw T w s) T' w w':=(((Mv.refl B (Tw T w s) w).alloc hB o).weak (fun k hk=>hk.low (stA (st0 w) o))).trans h
theorem wordAt_any (R:RS m B nr nw cr cw I T) (a:Int) (ha:0<=a) (ha':a<=65535) (w:World) (s:σ) (hI:I w s) :
 Calls Tryz.prog 81 #[.agg #[fw nr cr,fw nw cw],.int .u16 a] w fun e w'=>e = .returned (.int .u16 (m.rdw s a).1)/\I w' (m.rdw s a).2/\Mv B (Tw T w s) (Tw T w' (m.rdw s a).2) w w':=by
 have HI:=hid hI
 have HR:=hid R
 have hB:=R.big hI
 clear hI R
 unfold C.Mem.rdw
 have hw:IntKind.u16.wrap (a+1)=(a+1) % 65536:=IntKind.wrap_u16 _
 go_enter Tryz.func81,Tryz.ntmps81
 go_wp2_with (first
  | (go_at_call 132;first
      | (refine (HR.out.read _ (m.rd s a).2 ((a+1) % 65536) (by omega) (by omega) HI1.out).mono ?_;rintro e w2 ⟨rfl,hI2,hm2⟩)
      | (refine (HR.out.read _ s a ha ha' (HR.out.kept HI.out (stA (st0 _) _))).mono ?_;rintro e w1 ⟨rfl,hI1,hm1⟩;obtain ⟨hz1,hc1⟩:=HR.out.box HI.out hm1;have c0:=hc1 0;have c1:=hc1 1;have HI1:=hid hI1;clear hc1 hI1))
  | (go_at_call 133;refine (of_any _ _ _ (HR.out.byte _ _).1 (HR.out.byte _ _).2 (HR.out.byte _ _).1 (HR.out.byte _ _).2).mono ?_;rintro e w' ⟨rfl,rfl⟩))
 go_ret
 exact ⟨rfl,hI2,(hm1.trans hm2).unbox hB⟩
theorem putWord_any (R:RS m B nr nw cr cw I T) (a n:Int) (ha:0<=a) (ha':a<=65535) (hn:0<=n) (hn':n<=65535) (w:World) (s:σ) (hfu:2<=m.fuel s) (hI:I w s) :
 Calls Tryz.prog 213 #[.agg #[fw nr cr,fw nw cw],.int .u16 a,.int .u16 n] w fun e w'=>e = .returned (.tuple #[])/\I w' (m.wrw s a n)/\Mv B (Tw T w s) (Tw T w' (m.wrw s a n)) w w':=by
 have HI:=hid hI
 have HR:=hid R
 have hB:=R.big hI
 have hfu1:1<=m.fuel (m.wr s a (n / 256)):=by have:=R.fwr s a (n / 256);omega
 have hfu0:1<=m.fuel s:=by omega
 have HFU1:=hid hfu1
 have HFU0:=hid hfu0
 clear hI R hfu hfu0 hfu1
 unfold C.Mem.wrw
 have hw:IntKind.u16.wrap (a+1)=(a+1) % 65536:=IntKind.wrap_u16 _
 go_enter Tryz.func213,Tryz.ntmps213
 go_wp2_with (first
  | (go_at_call 216;first
      | (refine (HR.out.write _ (m.wr s a (n / 256)) ((a+1) % 65536) (n % 256) (by omega) (by omega) (by omega) (by omega) HFU1.out HI1.out).mono ?_;rintro e w2 ⟨rfl,hI2,hm2⟩)
      | (refine (HR.out.write _ s a (n / 256) ha ha' (by omega) (by omega) HFU0.out (HR.out.kept HI.out (stA (st0 _) _))).mono ?_;rintro e w1 ⟨rfl,hI1,hm1⟩;obtain ⟨hz1,hc1⟩:=HR.out.box HI.out hm1;have c0:=hc1 0;have c1:=hc1 1;have HI1:=hid hI1;clear hc1 hI1))
  | (go_at_call 109;refine (bytes_any n _ hn hn').mono ?_;rintro e w' ⟨rfl,rfl⟩))
 go_end0
 exact ⟨rfl,hI2,(hm1.trans hm2).unbox hB⟩
theorem RS.word (R:RS m B nr nw cr cw I T) (s:σ) (a:Int):0<=(m.rdw s a).1/\(m.rdw s a).1<=65535:=by
 have h1:=R.byte s a
 have h2:=R.byte (m.rd s a).2 ((a+1) % 65536)
 unfold C.Mem.rdw
 simp only
 omega
theorem RS.frdw (R:RS m B nr nw cr cw I T) (s:σ) (a:Int):m.fuel s<=m.fuel (m.rdw s a).2:=by
 unfold C.Mem.rdw
 exact Nat.le_trans (R.frd s a) (R.frd _ _)
theorem RS.fwrw (R:RS m B nr nw cr cw I T) (s:σ) (a n:Int):m.fuel s<=m.fuel (m.wrw s a n)+2:=by
 unfold C.Mem.wrw
 have h1:=R.fwr s a (n / 256)
 have h2:=R.fwr (m.wr s a (n / 256)) ((a+1) % 65536) (n % 256)
 omega
theorem RS.fpush (R:RS m B nr nw cr cw I T) (x:C.St σ) (n:Int):m.fuel x.s<=m.fuel (C.push m x n).s+2:=R.fwrw _ _ _
theorem u16w (x:Int):IntKind.u16.wrap x=x % 65536:=IntKind.wrap_u16 x
theorem push_any (R:RS m B nr nw cr cw I T) (n:Int) (hn:0<=n) (hn':n<=65535) (w:World) (p:Nat) (x:C.St σ) (hfu:2<=m.fuel x.s) (hP:PI B nr nw cr cw I T w p x) :
 Calls Tryz.prog 203 #[.pointer (some ⟨p,0,none⟩),.int .u16 n] w fun e w'=>e = .returned (.tuple #[])/\PI B nr nw cr cw I T w' p (C.push m x n)/\PM B T p x.s (C.push m x n).s w w':=by
 have h7:=hP.reg 7 (by omega)
 have hlt:=hP.lt
 have hf:=hP.frozen 7
 have hr:=C.Cpu.r_bd hP.ok 7
 have hw:=u16w (x.c.r 7 - 2)
 have HP:=hid hP
 have HR:=hid R
 have HP1:=hid (hP.putR R 7 (by omega) ((x.c.r 7 - 2) % 65536) (by omega) (by omega))
 have HFU:=hid hfu
 clear hP R hfu
 go_enter Tryz.func203,Tryz.ntmps203
 go_wp2
 go_region
 go_wp2
 refine cutW (fun W=>PI B nr nw cr cw I T W p ⟨x.c.set (7:Nat) ((x.c.r 7 - 2) % 65536),x.s,x.n⟩/\PM B T p x.s x.s w W) ⟨HP1.out.same HR.out rfl,((PM.refl B T p x.s w).set HP.out.big 7 _).drew⟩ ?_
 rintro W ⟨hW,hmW⟩
 have q7:=hW.reg 7 (by omega)
 rw [C.Cpu.r_set HP.out.ok 7 (by omega)] at q7
 obtain ⟨_,_,_,_,_,_,_,q15,q16,_⟩:=hW.cells
 have hltW:=hW.lt
 have HW:=hid hW
 have HM:=hid hmW
 clear hW hmW h7 hlt hf hw HP1
 go_region_held3 (fun w'=>w'.cell? ⟨p,7,none⟩=some (.int .u16 ((x.c.r 7 - 2) % 65536))/\w'.cell? ⟨p,15,none⟩=some (fw nr cr)/\w'.cell? ⟨p,16,none⟩=some (fw nw cw))
  ((go_keep;done))
  ((go_at_call 213;refine (putWord_any HR.out _ _ (by omega) (by omega) hn hn' _ x.s HFU.out ?_).mono ?_;(exact HW.out.invS HR.out rfl);rintro e w1 ⟨rfl,hI1,hm1⟩;obtain ⟨k1,f1,z1⟩:=HW.out.after hm1 rfl))
 go_wp2
 go_end0
 exact ⟨rfl,HW.out.movedS HR.out hI1 hm1 rfl,HM.out.drew.moved hm1⟩
theorem pop_any (R:RS m B nr nw cr cw I T) (w:World) (p:Nat) (x:C.St σ) (hP:PI B nr nw cr cw I T w p x) :
 Calls Tryz.prog 231 #[.pointer (some ⟨p,0,none⟩)] w fun e w'=>e = .returned (.int .u16 (C.popV m x))/\PI B nr nw cr cw I T w' p (C.pop m x)/\PM B T p x.s (C.pop m x).s w w':=by
 have h7:w.cell? ⟨p,7,none⟩=some (.int .u16 (x.c.r 7)):=hP.reg 7 (by omega)
 obtain ⟨_,_,_,_,_,_,_,c15,c16,_⟩:=hP.cells
 have hlt:=hP.lt
 have hr:=C.Cpu.r_bd hP.ok 7
 have hr1:=hr.1
 have hr2:=hr.2
 have HP:=hid hP
 have HR:=hid R
 clear hP R hr
 go_enter Tryz.func231,Tryz.ntmps231
 go_wp2
 go_region_held3 (fun w'=>w'.cell? ⟨p,7,none⟩=some (.int .u16 (x.c.r 7))/\w'.cell? ⟨p,15,none⟩=some (fw nr cr)/\w'.cell? ⟨p,16,none⟩=some (fw nw cw))
  ((go_keep;done))
  ((go_at_call 81;refine (wordAt_any HR.out (x.c.r 7) hr1 hr2 _ x.s ?_).mono ?_;(exact HP.out.invS HR.out rfl);rintro e w1 ⟨rfl,hI1,hm1⟩;obtain ⟨k1,f1,z1⟩:=HP.out.after hm1 rfl))
 have hP1:=HP.out.movedS HR.out hI1 hm1 rfl
 have HP1:=hid (hP1.putR HR.out 7 (by omega) ((x.c.r 7+2) % 65536) (by omega) (by omega))
 have hw:=u16w (x.c.r 7+2)
 clear hP1
 go_wp2
 go_region
 go_wp2
 go_ret
 exact ⟨rfl,HP1.out.same HR.out rfl,(((PM.refl B T p x.s w).drew.moved hm1).set HP.out.big 7 _).drew⟩
end
end Go.Proofs.YtbhpfkjfijdmaaaGreatDoor
