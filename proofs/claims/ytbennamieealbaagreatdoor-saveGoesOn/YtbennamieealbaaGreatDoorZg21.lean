/-
  Parts of a proof, joined.
-/
import Derived.Test.YtbennamieealbaaGreatDoorZg20
import Derived.Test.YtbennamieealbaaGreatDoorZg01
import Derived.Test.YtbennamieealbaaGreatDoorZg03
import Derived.Lib.Builder
import Derived.Test.YtbennamieealbaaGreatDoorChecked
import GoSem.PinnedTables
import GoSem.Claim
import GoSem.ClaimJoined
import GoSem.ClaimMapViews
import Derived.JoinedTies
import Derived.KernelRfl
import Derived.Test.YtbennamieealbaaGreatDoorZg00
import Derived.WalkKit
import Derived.ProofKit
import Derived.OpenShut
import Derived.WalkSpells
import Derived.Deep.QuietTactic
import Derived.BigQuiet
import Derived.Outline
import Derived.Deep.RegionHeld3
set_option linter.unusedVariables false
set_option maxRecDepth 100000
set_option maxHeartbeats 1600000
namespace Go.Proofs.YtbennamieealbaaGreatDoor
open Go.ChangeShapes Go.WideShapes Go.ChangeAt Go.RowKit
theorem cutW {P:Program} {code:Code} {Q:Exit->Act->World->Prop} {a:Act} {w:World} (K:World->Prop) (h:K w) (k:∀ w',K w'->code.wp P Q a w'):code.wp P Q a w:=k w h
abbrev fw (n:Nat) (cs:Array Value × Array Value):Value:=.func (.func n) cs.1 cs.2
abbrev fv (n:Nat) (cs:Array Value):Value:=.func (.func n) #[] cs
def Tw {σ:Type} (T:σ->Nat->Prop) (w:World) (s:σ) (k:Nat):Prop:=T s k \/ ∃ cs fr,w.heap[k]? = some (.cells cs 66 fr)
structure RS {σ : Type} (m : C.Mem σ) (B : Nat) (nr nw : Nat) (cr cw : Array Value × Array Value) (I : World -> σ -> Prop) (T : σ -> Nat -> Prop) : Prop where
 lt:∀ {w s},I w s->∀ k,T s k->k<w.heap.size
 keep:∀ {w w' s},I w s->w.heap.size<=w'.heap.size->(∀ k,Tw T w s k->w'.heap[k]? = w.heap[k]?)->I w' s
 shapes:∀ {w s},I w s->shapesAt w
 gT:∀ {s},T s 2
 byte:∀ s a,0<=(m.rd s a).1/\(m.rd s a).1<=255
 frd:∀ s a,m.fuel s<=m.fuel (m.rd s a).2
 fwr:∀ s a b,m.fuel s<=m.fuel (m.wr s a b)+1
 big:∀ {w s},I w s->B<=w.heap.size
 read:∀ w s (a:Int),0<=a->a<=65535->I w s->Calls Tryz.prog 180 #[.agg #[fw nr cr,fw nw cw],.int .u16 a] w λe w'=>e = .returned (.int .u8 (m.rd s a).1)/\I w' (m.rd s a).2/\Mv B (Tw T w s) (Tw T w' (m.rd s a).2) w w'
 write:∀ w s (a b:Int),0<=a->a<=65535->0<=b->b<=255->1<=m.fuel s->I w s->Calls Tryz.prog 270 #[.agg #[fw nr cr,fw nw cw],.int .u16 a,.int .u8 b] w λe w'=>e = .returned (.tuple #[])/\I w' (m.wr s a b)/\Mv B (Tw T w s) (Tw T w' (m.wr s a b)) w w'
theorem Mv.weak {B:Nat} {T T' T'':Nat->Prop} {w w':World} (h:Mv B T T' w w') (hT:∀ k,T'' k->T' k \/ w.heap.size<=k):Mv B T T'' w w' :=
 ⟨h.below,h.block,λk hk=>(hT k hk).elim (h.fresh k) Or.inr⟩
section
variable {σ : Type} {T : σ -> Nat -> Prop} {w w' : World} {s : σ} {k : Nat}
theorem Tw.same (e:w'.heap[k]? = w.heap[k]?) (h:Tw T w' s k):Tw T w s k:=h.imp id (λ⟨cs,fr,x⟩=>⟨cs,fr,by rw [<- e];exact x⟩)
theorem Tw.of (h:¬ T s k) {cs:Array Value} {t:TypeId} {fr:Nat × Nat} (e:w.heap[k]? = some (.cells cs t fr)) (ht:t≠66):¬ Tw T w s k:=λhx=>hx.elim h (λ⟨cs',fr',x⟩=>by
 rw [e] at x
 simp only [Option.some.injEq,Obj.cells.injEq] at x
 exact ht x.2.1)
theorem Tw.set {a:Addr} {v:Value} (h:Tw T (w.setCell a v) s k):Tw T w s k:=h.imp id (λ⟨cs,fr,x⟩=>by
 simp only [World.setCell,Array.getElem?_modify] at x
 split at x
 ·revert x
  cases w.heap[k]? with
  | none=>intro x;cases x
  | some o =>
   cases o <;> intro x <;> simp at x <;> (obtain ⟨_,rfl,_⟩:=x;exact ⟨_,_,rfl⟩)
 ·exact ⟨cs,fr,x⟩)
theorem Tw.sets {b:Nat}:∀ {vs:List Value} {o:Nat} {w:World},Tw T (w.setCells b o vs) s k->Tw T w s k
 | [],o,w,h=>h
 | v::vs,o,w,h=>Tw.set (Tw.sets (vs:=vs) h)
theorem Tw.low (hb:Below w.heap.size w w') (h:Tw T w' s k):Tw T w s k \/ w.heap.size<=k:=by
 rcases Nat.lt_or_ge k w.heap.size with hk|hk
 ·exact Or.inl (h.same (hb.block k hk))
 ·exact Or.inr hk
theorem Tw.lt (hl:∀ k,T s k->k<w.heap.size) (h:Tw T w s k):k<w.heap.size:=h.elim (hl k) (λ⟨cs,fr,x⟩=>(Array.getElem?_eq_some_iff.1 x).1)
end
def cpuCells (c:C.Cpu):List Value:=c.R.map (Value.int .u16)++[.int .u16 c.PC,.bool c.Z,.bool c.N,.bool c.C,.bool c.V,.bool c.May,.bool c.Waits]
def pcells (c:C.Cpu) (fr fw:Value) (n:Int):Array Value:=(cpuCells c++[fr,fw,.int .i64 n]).toArray
abbrev cpuV (c:C.Cpu):Value:=.agg #[.int .u16 (c.r 0),.int .u16 (c.r 1),.int .u16 (c.r 2),.int .u16 (c.r 3),.int .u16 (c.r 4),.int .u16 (c.r 5),.int .u16 (c.r 6),.int .u16 (c.r 7),.int .u16 c.PC,.bool c.Z,.bool c.N,.bool c.C,.bool c.V,.bool c.May,.bool c.Waits]
theorem reg8 {l:List Int} (h:l.length=8):∃ a0 a1 a2 a3 a4 a5 a6 a7,l=[a0,a1,a2,a3,a4,a5,a6,a7]:=by
 match l,h with
 | [a0,a1,a2,a3,a4,a5,a6,a7],_=>exact ⟨a0,a1,a2,a3,a4,a5,a6,a7,rfl⟩
section
variable {σ : Type} {m : C.Mem σ} {B nr nw : Nat} {cr cw : Array Value × Array Value} {I : World -> σ -> Prop} {T : σ -> Nat -> Prop}
structure PI (B : Nat) (nr nw : Nat) (cr cw : Array Value × Array Value) (I : World -> σ -> Prop) (T : σ -> Nat -> Prop) (w : World) (p : Nat) (x : C.St σ) : Prop where
 inv:I w x.s
 own:¬ T x.s p
 big:B<=p
 blk:w.heap[p]? = some (.cells (pcells x.c (fw nr cr) (fw nw cw) x.n) 275 (0,0))
 ok:x.c.ok
def PM (B:Nat) (T:σ->Nat->Prop) (p:Nat) (s s':σ) (w w':World):Prop:=Mv B (λk=>k=p \/ Tw T w s k) (λk=>k=p \/ Tw T w' s' k) w w'
theorem PI.lt {w:World} {p:Nat} {x:C.St σ} (h:PI B nr nw cr cw I T w p x):p<w.heap.size:=(Array.getElem?_eq_some_iff.1 h.blk).1
theorem PI.ownW {w:World} {p:Nat} {x:C.St σ} (h:PI B nr nw cr cw I T w p x):¬ Tw T w x.s p:=Tw.of h.own h.blk (by decide)
theorem PI.frozen {w:World} {p:Nat} {x:C.St σ} (h:PI B nr nw cr cw I T w p x) (i:Nat):w.frozen? ⟨p,i,none⟩=false:=Lib.frozen_of_heap h.blk i
theorem zfP {c:C.Cpu} (hc:c.R.length=8) (fr fw:Value) (n:Int) :
 (∀ i:Nat,i<8->(pcells c fr fw n)[i]? = some (.int .u16 (c.r i)))/\(pcells c fr fw n)[8]? = some (.int .u16 c.PC)/\(pcells c fr fw n)[9]? = some (.bool c.Z)/\(pcells c fr fw n)[10]? = some (.bool c.N)/\(pcells c fr fw n)[11]? = some (.bool c.C) /\
  (pcells c fr fw n)[12]? = some (.bool c.V)/\(pcells c fr fw n)[13]? = some (.bool c.May)/\(pcells c fr fw n)[14]? = some (.bool c.Waits)/\(pcells c fr fw n)[15]? = some fr/\(pcells c fr fw n)[16]? = some fw/\(pcells c fr fw n)[17]? = some (.int .i64 n):=by
 obtain ⟨a0,a1,a2,a3,a4,a5,a6,a7,h⟩:=reg8 hc
 unfold pcells cpuCells C.Cpu.r
 rw [h]
 refine ⟨λi hi=>?_,rfl,rfl,rfl,rfl,rfl,rfl,rfl,rfl,rfl,rfl⟩
 have:i=0 \/ i=1 \/ i=2 \/ i=3 \/ i=4 \/ i=5 \/ i=6 \/ i=7:=by omega
 rcases this with rfl|rfl|rfl|rfl|rfl|rfl|rfl|rfl <;> rfl
theorem PI.reg {w:World} {p:Nat} {x:C.St σ} (h:PI B nr nw cr cw I T w p x) (i:Nat) (hi:i<8):w.cell? ⟨p,i,none⟩=some (.int .u16 (x.c.r i)):=by
 rw [Lib.cell_of_heap h.blk i];exact (zfP h.ok.1 _ _ _).1 i hi
theorem PI.cells {w:World} {p:Nat} {x:C.St σ} (h:PI B nr nw cr cw I T w p x) :
 w.cell? ⟨p,8,none⟩=some (.int .u16 x.c.PC)/\w.cell? ⟨p,9,none⟩=some (.bool x.c.Z)/\w.cell? ⟨p,10,none⟩=some (.bool x.c.N)/\w.cell? ⟨p,11,none⟩=some (.bool x.c.C)/\w.cell? ⟨p,12,none⟩=some (.bool x.c.V) /\
  w.cell? ⟨p,13,none⟩=some (.bool x.c.May)/\w.cell? ⟨p,14,none⟩=some (.bool x.c.Waits)/\w.cell? ⟨p,15,none⟩=some (fw nr cr)/\w.cell? ⟨p,16,none⟩=some (fw nw cw)/\w.cell? ⟨p,17,none⟩=some (.int .i64 x.n):=by
 have e:=λi=>Lib.cell_of_heap h.blk i
 obtain ⟨_,h8,h9,h10,h11,h12,h13,h14,h15,h16,h17⟩:=zfP h.ok.1 (fw nr cr) (fw nw cw) x.n
 exact ⟨(e 8).trans h8,(e 9).trans h9,(e 10).trans h10,(e 11).trans h11,(e 12).trans h12,(e 13).trans h13,(e 14).trans h14,(e 15).trans h15,(e 16).trans h16,(e 17).trans h17⟩
theorem PI.regs {w:World} {p:Nat} {x:C.St σ} (h:PI B nr nw cr cw I T w p x) :
 w.cell? ⟨p,0,none⟩=some (.int .u16 (x.c.r 0))/\w.cell? ⟨p,1,none⟩=some (.int .u16 (x.c.r 1))/\w.cell? ⟨p,2,none⟩=some (.int .u16 (x.c.r 2))/\w.cell? ⟨p,3,none⟩=some (.int .u16 (x.c.r 3)) /\
  w.cell? ⟨p,4,none⟩=some (.int .u16 (x.c.r 4))/\w.cell? ⟨p,5,none⟩=some (.int .u16 (x.c.r 5))/\w.cell? ⟨p,6,none⟩=some (.int .u16 (x.c.r 6))/\w.cell? ⟨p,7,none⟩=some (.int .u16 (x.c.r 7)) :=
 ⟨h.reg 0 (by omega),h.reg 1 (by omega),h.reg 2 (by omega),h.reg 3 (by omega),h.reg 4 (by omega),h.reg 5 (by omega),h.reg 6 (by omega),h.reg 7 (by omega)⟩
theorem zbD {w:World} {b i:Nat} {cs:Array Value} {t:TypeId} {fr:Nat × Nat} (h:w.heap[b]? = some (.cells cs t fr)) (v:Value):(w.setCell ⟨b,i,none⟩ v).heap[b]? = some (.cells (cs.setIfInBounds i v) t fr):=by
 simp [World.setCell,Array.getElem?_modify,h]
theorem zba (w:World) (a:Addr) (v:Value):(w.setCell a v).heap.size=w.heap.size:=by simp [World.setCell]
theorem PI.put (R:RS m B nr nw cr cw I T) {w:World} {p:Nat} {x:C.St σ} (h:PI B nr nw cr cw I T w p x) (i:Nat) (v:Value) (c':C.Cpu) (n':Int) (hok:c'.ok) (hc:(pcells x.c (fw nr cr) (fw nw cw) x.n).setIfInBounds i v=pcells c' (fw nr cr) (fw nw cw) n') :
 PI B nr nw cr cw I T (w.setCell ⟨p,i,none⟩ v) p ⟨c',x.s,n'⟩ :=
 ⟨R.keep h.inv (by rw [zba];exact Nat.le_refl _) (λk hk=>Below.heap_setCell _ _ _ _ (λe=>h.ownW (by have e':k=p:=e;rw [<- e'];exact hk))),h.own,h.big,by rw [zbD h.blk,hc],hok⟩
theorem zhG {c:C.Cpu} (hc:c.R.length=8) (fr fw:Value) (n:Int) (i:Nat) (hi:i<8) (x:Int):(pcells c fr fw n).setIfInBounds i (.int .u16 x)=pcells (c.set i x) fr fw n:=by
 obtain ⟨a0,a1,a2,a3,a4,a5,a6,a7,h⟩:=reg8 hc
 unfold pcells cpuCells C.Cpu.set
 rw [h]
 have:i=0 \/ i=1 \/ i=2 \/ i=3 \/ i=4 \/ i=5 \/ i=6 \/ i=7:=by omega
 rcases this with rfl|rfl|rfl|rfl|rfl|rfl|rfl|rfl <;> rfl
theorem za1 {c:C.Cpu} (hc:c.R.length=8) (fr fw:Value) (n:Int) :
 (∀ x,(pcells c fr fw n).setIfInBounds 8 (.int .u16 x)=pcells { c with PC:=x } fr fw n)/\(∀ x,(pcells c fr fw n).setIfInBounds 9 (.bool x)=pcells { c with Z:=x } fr fw n)/\(∀ x,(pcells c fr fw n).setIfInBounds 10 (.bool x)=pcells { c with N:=x } fr fw n) /\
 (∀ x,(pcells c fr fw n).setIfInBounds 11 (.bool x)=pcells { c with C:=x } fr fw n)/\(∀ x,(pcells c fr fw n).setIfInBounds 12 (.bool x)=pcells { c with V:=x } fr fw n)/\(∀ x,(pcells c fr fw n).setIfInBounds 13 (.bool x)=pcells { c with May:=x } fr fw n) /\
 (∀ x,(pcells c fr fw n).setIfInBounds 14 (.bool x)=pcells { c with Waits:=x } fr fw n)/\(∀ x,(pcells c fr fw n).setIfInBounds 17 (.int .i64 x)=pcells c fr fw x):=by
 obtain ⟨a0,a1,a2,a3,a4,a5,a6,a7,h⟩:=reg8 hc
 unfold pcells cpuCells
 rw [h]
 exact ⟨λ_=>rfl,λ_=>rfl,λ_=>rfl,λ_=>rfl,λ_=>rfl,λ_=>rfl,λ_=>rfl,λ_=>rfl⟩
variable {w : World} {p : Nat} {x : C.St σ}
theorem PI.putR (R:RS m B nr nw cr cw I T) (h:PI B nr nw cr cw I T w p x) (i:Nat) (hi:i<8) (v:Int) (h0:0<=v) (h1:v<=65535):PI B nr nw cr cw I T (w.setCell ⟨p,i,none⟩ (.int .u16 v)) p ⟨x.c.set i v,x.s,x.n⟩ :=
 h.put R i _ _ _ (C.Cpu.ok_set h.ok _ _ h0 h1) (zhG h.ok.1 _ _ _ i hi v)
theorem PI.putPC (R:RS m B nr nw cr cw I T) (h:PI B nr nw cr cw I T w p x) (v:Int) (h0:0<=v) (h1:v<=65535):PI B nr nw cr cw I T (w.setCell ⟨p,8,none⟩ (.int .u16 v)) p ⟨{ x.c with PC:=v },x.s,x.n⟩ :=
 h.put R 8 _ _ _ (C.Cpu.ok_pc h.ok v h0 h1) ((za1 h.ok.1 _ _ _).1 v)
theorem PI.putZ (R:RS m B nr nw cr cw I T) (h:PI B nr nw cr cw I T w p x) (v:Bool):PI B nr nw cr cw I T (w.setCell ⟨p,9,none⟩ (.bool v)) p ⟨{ x.c with Z:=v },x.s,x.n⟩:=h.put R 9 _ _ _ h.ok ((za1 h.ok.1 _ _ _).2.1 v)
theorem PI.putN (R:RS m B nr nw cr cw I T) (h:PI B nr nw cr cw I T w p x) (v:Bool):PI B nr nw cr cw I T (w.setCell ⟨p,10,none⟩ (.bool v)) p ⟨{ x.c with N:=v },x.s,x.n⟩:=h.put R 10 _ _ _ h.ok ((za1 h.ok.1 _ _ _).2.2.1 v)
theorem PI.putC (R:RS m B nr nw cr cw I T) (h:PI B nr nw cr cw I T w p x) (v:Bool):PI B nr nw cr cw I T (w.setCell ⟨p,11,none⟩ (.bool v)) p ⟨{ x.c with C:=v },x.s,x.n⟩:=h.put R 11 _ _ _ h.ok ((za1 h.ok.1 _ _ _).2.2.2.1 v)
theorem PI.putV (R:RS m B nr nw cr cw I T) (h:PI B nr nw cr cw I T w p x) (v:Bool):PI B nr nw cr cw I T (w.setCell ⟨p,12,none⟩ (.bool v)) p ⟨{ x.c with V:=v },x.s,x.n⟩:=h.put R 12 _ _ _ h.ok ((za1 h.ok.1 _ _ _).2.2.2.2.1 v)
theorem PI.putMay (R:RS m B nr nw cr cw I T) (h:PI B nr nw cr cw I T w p x) (v:Bool):PI B nr nw cr cw I T (w.setCell ⟨p,13,none⟩ (.bool v)) p ⟨{ x.c with May:=v },x.s,x.n⟩:=h.put R 13 _ _ _ h.ok ((za1 h.ok.1 _ _ _).2.2.2.2.2.1 v)
theorem PI.putWaits (R:RS m B nr nw cr cw I T) (h:PI B nr nw cr cw I T w p x) (v:Bool):PI B nr nw cr cw I T (w.setCell ⟨p,14,none⟩ (.bool v)) p ⟨{ x.c with Waits:=v },x.s,x.n⟩:=h.put R 14 _ _ _ h.ok ((za1 h.ok.1 _ _ _).2.2.2.2.2.2.1 v)
theorem PI.putCyc (R:RS m B nr nw cr cw I T) (h:PI B nr nw cr cw I T w p x) (v:Int):PI B nr nw cr cw I T (w.setCell ⟨p,17,none⟩ (.int .i64 v)) p ⟨x.c,x.s,v⟩:=h.put R 17 _ _ _ h.ok ((za1 h.ok.1 _ _ _).2.2.2.2.2.2.2 v)
theorem PI.kept (R:RS m B nr nw cr cw I T) (h:PI B nr nw cr cw I T w p x) {w':World} (hb:Below w.heap.size w w'):PI B nr nw cr cw I T w' p x :=
 ⟨R.keep h.inv hb.size (λk hk=>hb.block k (hk.lt (R.lt h.inv))),h.own,h.big,(hb.block p h.lt).trans h.blk,h.ok⟩
theorem PI.moved (h:PI B nr nw cr cw I T w p x) {w':World} {s':σ} (hI:I w' s') (hm:Mv B (Tw T w x.s) (Tw T w' s') w w'):PI B nr nw cr cw I T w' p ⟨x.c,s',x.n⟩ :=
 ⟨hI,λht=>by rcases hm.fresh p (Or.inl ht) with y|y;exact h.ownW y;have:=h.lt;omega,h.big,(hm.block p h.lt h.ownW).trans h.blk,h.ok⟩
theorem PI.same (R:RS m B nr nw cr cw I T) (h:PI B nr nw cr cw I T w p x) {w':World} (e:w'.heap=w.heap):PI B nr nw cr cw I T w' p x :=
 ⟨R.keep h.inv (by rw [e];exact Nat.le_refl _) (λk _=>by rw [e]),h.own,h.big,by rw [e];exact h.blk,h.ok⟩
theorem PI.movedS (R:RS m B nr nw cr cw I T) (h:PI B nr nw cr cw I T w p x) {w0 w1:World} {s':σ} (hI:I w1 s') (hm:Mv B (Tw T w0 x.s) (Tw T w1 s') w0 w1) (e:w0.heap=w.heap):PI B nr nw cr cw I T w1 p ⟨x.c,s',x.n⟩:=(h.same R e).moved hI hm
theorem PI.invS (R:RS m B nr nw cr cw I T) (h:PI B nr nw cr cw I T w p x) {w':World} (e:w'.heap=w.heap):I w' x.s:=(h.same R e).inv
theorem PI.after (h:PI B nr nw cr cw I T w p x) {w0 w1:World} {T':Nat->Prop} (hm:Mv B (Tw T w0 x.s) T' w0 w1) (e:w0.heap=w.heap):(∀ i,w1.cell? ⟨p,i,none⟩=w.cell? ⟨p,i,none⟩)/\(∀ i,w1.frozen? ⟨p,i,none⟩=false)/\p<w1.heap.size:=by
 have hb:w1.heap[p]? = w.heap[p]?:=by rw [hm.block p (by rw [e];exact h.lt) (λy=>h.ownW (y.same (by rw [e]))),e]
 exact ⟨λi=>World.cell?_of_block (w:=w) hb,λi=>Lib.frozen_of_heap (hb.trans h.blk) i,Nat.lt_of_lt_of_le (by rw [e];exact h.lt) hm.size⟩
theorem PI.hB (R:RS m B nr nw cr cw I T) (h:PI B nr nw cr cw I T w p x):B<=w.heap.size:=R.big h.inv
theorem PM.refl (B:Nat) (T:σ->Nat->Prop) (p:Nat) (s:σ) (w:World):PM B T p s s w w:=Mv.refl _ _ _
theorem PM.set {s s':σ} {w w':World} (h:PM B T p s s' w w') (hB:B<=p) (i:Nat) (v:Value):PM B T p s s' w (w'.setCell ⟨p,i,none⟩ v):=(Mv.setCell h hB (Or.inl (Or.inl rfl)) v).weak (λk hk=>Or.inl (hk.imp id Tw.set))
theorem PM.trans {s s' s'':σ} {a b c:World} (h:PM B T p s s' a b) (k:PM B T p s' s'' b c):PM B T p s s'' a c:=Mv.trans h k
theorem PM.moved {s s' s'':σ} {a b c:World} (h:PM B T p s s' a b) (k:Mv B (Tw T b s') (Tw T c s'') b c):PM B T p s s'' a c:=Mv.trans h (k.also p)
theorem PM.kept {s s':σ} {a b c:World} (h:PM B T p s s' a b) (hB:B<=b.heap.size) (k:Below b.heap.size b c):PM B T p s s' a c:=(Mv.trans h (Mv.of_below hB k)).weak (λi hi=>hi.elim (λe=>Or.inl (Or.inl e)) (λy=>(y.low k).elim (λz=>Or.inl (Or.inr z)) (λz=>Or.inr (Nat.le_trans (Mv.size h) z))))
theorem PM.drew {s s':σ} {w w':World} (h:PM B T p s s' w w'):PM B T p s s' w w'.drew:=Mv.drew h
theorem PM.alloc {s s':σ} {w w':World} (h:PM B T p s s' w w') (hB:B<=w.heap.size) (o:Obj):PM B T p s s' w (w'.alloc o):=(Mv.alloc h hB o).weak (λi hi=>hi.elim (λe=>Or.inl (Or.inl e)) (λy=>(y.low (stA (st0 w') o)).elim (λz=>Or.inl (Or.inr z)) (λz=>Or.inr (Nat.le_trans (Mv.size h) z))))
theorem PM.cell {s s':σ} {w w':World} (h:PM B T p s s' w w') {k:Nat} (hk:k<w.heap.size) (hp:k≠p) (ht:¬ Tw T w s k) (o:Nat):w'.cell? ⟨k,o,none⟩=w.cell? ⟨k,o,none⟩:=Mv.cell h hk (λe=>e.elim hp ht) o
theorem PM.froz {s s':σ} {w w':World} (h:PM B T p s s' w w') {k:Nat} (hk:k<w.heap.size) (hp:k≠p) (ht:¬ Tw T w s k) (o:Nat):w'.frozen? ⟨k,o,none⟩=w.frozen? ⟨k,o,none⟩:=Mv.froz h hk (λe=>e.elim hp ht) o
end
theorem ret_i {k:IntKind} {a a':Int} (h:a=a'):Ending.returned (.int k a) = .returned (.int k a'):=by rw [h]
theorem zoB {k:IntKind} {a a':Int} {b b':Bool} (h:a=a') (h1:b=b'):Ending.returned (.tuple #[.int k a,.bool b]) = .returned (.tuple #[.int k a',.bool b']):=by rw [h,h1]
theorem zoC {k l:IntKind} {a a' b b':Int} (h:a=a') (h1:b=b'):Ending.returned (.tuple #[.int k a,.int l b]) = .returned (.tuple #[.int k a',.int l b']):=by rw [h,h1]
theorem ziZ {k:IntKind} {a a':Int} {b b' c c':Bool} (h:a=a') (h1:b=b') (h2:c=c'):Ending.returned (.tuple #[.int k a,.bool b,.bool c]) = .returned (.tuple #[.int k a',.bool b',.bool c']):=by rw [h,h1,h2]
theorem zcL {k l:IntKind} {a a' c c':Int} {b b':Bool} (h:a=a') (h1:b=b') (h2:c=c'):Ending.returned (.tuple #[.int k a,.bool b,.int l c]) = .returned (.tuple #[.int k a',.bool b',.int l c']):=by rw [h,h1,h2]
theorem zi0 (a b:Int) (w:World) (ha:0<=a) (ha':a<=65535) (hb:0<=b) (hb':b<=65535) :
 Calls Tryz.prog 335 #[.int .u16 a,.int .u16 b] w λe w'=>e = .returned (.tuple #[.int .u16 (M.addN a b),.bool (M.addC a b),.bool (M.addV a b)])/\w'=w:=by
 go_enter Tryz.func335,Tryz.ntmps335
 go_wp2
 go_ret3
 exact ⟨ziZ (IntKind.wrap_u16 _) (M.carry_add a b ha ha' hb hb') (M.over_add a b ha ha' hb hb'),rfl⟩
theorem zi1 (a b:Int) (w:World) (ha:0<=a) (ha':a<=65535) (hb:0<=b) (hb':b<=65535) :
 Calls Tryz.prog 336 #[.int .u16 a,.int .u16 b] w λe w'=>e = .returned (.tuple #[.int .u16 (M.subN a b),.bool (M.subC a b),.bool (M.subV a b)])/\w'=w:=by
 go_enter Tryz.func336,Tryz.ntmps336
 go_wp2
 go_ret3
 exact ⟨ziZ (IntKind.wrap_u16 _) rfl (M.over_sub a b ha ha' hb hb'),rfl⟩
theorem zna (a b:Int) (w:World) (ha:0<=a) (ha':a<=65535) (hb:0<=b) (hb':b<=65535) :
 Calls Tryz.prog 342 #[.int .u16 a,.int .u16 b] w λe w'=>e = .returned (.tuple #[.int .u16 (M.mulN a b),.bool (M.mulC a b)])/\w'=w:=by
 have hm:=M.mul_bd a b ha ha' hb hb'
 go_enter Tryz.func342,Tryz.ntmps342
 go_wp2
 go_ret2
 exact ⟨zoB (IntKind.wrap_u16 _) (M.mul_high _ hm.1),rfl⟩
theorem zi2 (a:Int) (w:World) (ha:0<=a) (ha':a<=65535) :
 Calls Tryz.prog 159 #[.int .u16 a] w λe w'=>e = .returned (.tuple #[.int .u8 (a/256),.int .u8 (a%256)])/\w'=w:=by
 go_enter Tryz.func159,Tryz.ntmps159
 go_wp2
 go_ret2
 exact ⟨rfl,rfl⟩
theorem zoD (a b:Int) (w:World) (ha:0<=a) (ha':a<=255) (hb:0<=b) (hb':b<=255) :
 Calls Tryz.prog 181 #[.int .u8 a,.int .u8 b] w λe w'=>e = .returned (.int .u16 (a*256+b))/\w'=w:=by
 go_enter Tryz.func181,Tryz.ntmps181
 go_wp2
 go_ret
 exact ⟨ret_i (M.joined a b ha ha' hb hb'),rfl⟩
theorem zev (a n:Int) (w:World) (ha:0<=a) (ha':a<=65535) (hn:0<=n) (hn':n<=15) :
 Calls Tryz.prog 318 #[.int .u16 a,.int .i64 n] w λe w'=>e = .returned (.bool (M.hasB a n))/\w'=w:=by
 go_enter Tryz.func318,Tryz.ntmps318
 go_wp2
 go_ret
 exact ⟨ret_b (M.has_of a n ha ha'),rfl⟩
theorem zfg (n:Int) (w:World) (h:0<=n) (h':n<=15) :
 Calls Tryz.prog 317 #[.int .i64 n] w λe w'=>e = .returned (.bool true)/\w'=w:=by
 go_enter Tryz.func317,Tryz.ntmps317
 go_wp2
 go_ret
 exact ⟨ret_b (by simp;omega),rfl⟩
theorem znb (a:Int) (w:World) :
 Calls Tryz.prog 273 #[.int .u16 a,.int .i64 0] w λe w'=>e = .returned (.tuple #[.int .u16 a,.bool false,.int .i64 0]) /\ ∃ k,w'=w.drewN k:=by
 go_enter Tryz.func273,Tryz.ntmps273
 go_wp2_with (go_at_call 317;refine (zfg _ _ (by omega) (by omega)).mono ?_;rintro e w' ⟨rfl,rfl⟩)
 go_ret3
 exact ⟨rfl,0,rfl⟩
theorem zlh (a n:Int) (w:World) (ha:0<=a) (ha':a<=65535) (hn:1<=n) (hn':n<=15) :
 Calls Tryz.prog 273 #[.int .u16 a,.int .i64 n] w λe w'=>e = .returned (.tuple #[.int .u16 (M.shlN a n),.bool (M.hasB a (16-n)),.int .i64 0]) /\ ∃ k,w'=w.drewN k:=by
 have h0:(n == 0)=false:=by simp;omega
 go_enter Tryz.func273,Tryz.ntmps273
 go_wp2_with (go_at_call 317;refine (zfg _ _ (by omega) (by omega)).mono ?_;rintro e w' ⟨rfl,rfl⟩)
 go_quiet ((go_at_call 318;exact Calls.quiet_of_same (zev _ _ _ (by omega) (by omega) (by omega) (by omega))))
 go_wp2
 go_ret3
 exact ⟨zcL rfl rfl rfl,_,rfl⟩
theorem zhH (a:Int) (ha:0<=a) (ha':a<=65535):M.shlN a 0=a:=by unfold M.shlN;simp;omega
theorem zgq (a n:Int) (hn:1<=n):M.shlC a n=M.hasB a (16-n):=by unfold M.shlC M.hasB;simp [hn]
theorem zhI (a:Int):M.shrN a 0=a:=by unfold M.shrN;simp
theorem zgr (a n:Int) (hn:1<=n):M.shrC a n=M.hasB a (n-1):=by unfold M.shrC M.hasB;simp [hn]
theorem znc (a n:Int) (w:World) (ha:0<=a) (ha':a<=65535) (hn:0<=n) (hn':n<=15) :
 Calls Tryz.prog 273 #[.int .u16 a,.int .i64 n] w λe w'=>e = .returned (.tuple #[.int .u16 (M.shlN a n),.bool (M.shlC a n),.int .i64 0]) /\ ∃ k,w'=w.drewN k:=by
 by_cases h:n=0
 ·subst h
  exact (znb a w).mono λ_ _ h=>⟨h.1.trans (zcL (zhH a ha ha').symm (by simp [M.shlC]) rfl),h.2⟩
 ·exact (zlh a n w ha ha' (by omega) hn').mono λ_ _ h=>⟨h.1.trans (zcL rfl (zgq a n (by omega)).symm rfl),h.2⟩
theorem znd (a:Int) (w:World) :
 Calls Tryz.prog 274 #[.int .u16 a,.int .i64 0] w λe w'=>e = .returned (.tuple #[.int .u16 a,.bool false,.int .i64 0]) /\ ∃ k,w'=w.drewN k:=by
 go_enter Tryz.func274,Tryz.ntmps274
 go_wp2_with (go_at_call 317;refine (zfg _ _ (by omega) (by omega)).mono ?_;rintro e w' ⟨rfl,rfl⟩)
 go_ret3
 exact ⟨rfl,0,rfl⟩
theorem zli (a n:Int) (w:World) (ha:0<=a) (ha':a<=65535) (hn:1<=n) (hn':n<=15) :
 Calls Tryz.prog 274 #[.int .u16 a,.int .i64 n] w λe w'=>e = .returned (.tuple #[.int .u16 (M.shrN a n),.bool (M.hasB a (n-1)),.int .i64 0]) /\ ∃ k,w'=w.drewN k:=by
 have h0:(n == 0)=false:=by simp;omega
 go_enter Tryz.func274,Tryz.ntmps274
 go_wp2_with (go_at_call 317;refine (zfg _ _ (by omega) (by omega)).mono ?_;rintro e w' ⟨rfl,rfl⟩)
 go_quiet ((go_at_call 318;exact Calls.quiet_of_same (zev _ _ _ (by omega) (by omega) (by omega) (by omega))))
 go_wp2
 go_ret3
 exact ⟨zcL rfl rfl rfl,_,rfl⟩
theorem zne (a n:Int) (w:World) (ha:0<=a) (ha':a<=65535) (hn:0<=n) (hn':n<=15) :
 Calls Tryz.prog 274 #[.int .u16 a,.int .i64 n] w λe w'=>e = .returned (.tuple #[.int .u16 (M.shrN a n),.bool (M.shrC a n),.int .i64 0]) /\ ∃ k,w'=w.drewN k:=by
 by_cases h:n=0
 ·subst h
  exact (znd a w).mono λ_ _ h=>⟨h.1.trans (zcL (zhI a).symm (by simp [M.shrC]) rfl),h.2⟩
 ·exact (zli a n w ha ha' (by omega) hn').mono λ_ _ h=>⟨h.1.trans (zcL rfl (zgr a n (by omega)).symm rfl),h.2⟩
theorem zbX (a n:Int) (w:World) (ha:0<=a) (ha':a<=65535) (hn:1<=n) (hn':n<=16) :
 Calls Tryz.prog 315 #[.int .u16 a,.int .i64 n] w λe w'=>e = .returned (.tuple #[.int .i64 (M.low a n),.int .i64 0])/\w'=w:=by
 go_enter Tryz.func315,Tryz.ntmps315
 go_wp2
 go_ret2
 exact ⟨zoC (M.low_of a n hn hn') rfl,rfl⟩
section
variable {σ : Type} {m : C.Mem σ} {B nr nw : Nat} {cr cw : Array Value × Array Value} {I : World -> σ -> Prop} {T : σ -> Nat -> Prop}
theorem RS.kept (R:RS m B nr nw cr cw I T) {w w':World} {s:σ} (h:I w s) (hb:Below w.heap.size w w'):I w' s:=R.keep h hb.size (λk hk=>hb.block k (hk.lt (R.lt h)))
theorem RS.out (R:RS m B nr nw cr cw I T) {w:World} {s:σ} (h:I w s) {k:Nat} (hk:w.heap.size<=k):¬ T s k:=λht=>by have:=R.lt h k ht;omega
theorem RS.outN (R:RS m B nr nw cr cw I T) {w w0:World} {s:σ} {cs:Array Value} {t:TypeId} (h:I w s) (e:w0.heap=(w.alloc (.cells cs t)).heap) (ht:t≠66):¬ Tw T w0 s w.heap.size:=Tw.of (R.out h (Nat.le_refl _)) (by rw [e];exact heap_alloc_new w _) ht
theorem RS.box (R:RS m B nr nw cr cw I T) {w w1:World} {s:σ} {cs:Array Value} {t:TypeId} {T':Nat->Prop} (h:I w s) (hm:Mv B (Tw T (w.alloc (.cells cs t)) s) T' (w.alloc (.cells cs t)) w1) (ht:t≠66:=by decide):w.heap.size<w1.heap.size /\ ∀ o,w1.cell? ⟨w.heap.size,o,none⟩=cs[o]?:=by
 refine ⟨by have:=hm.size;simp at this;omega,λo=>?_⟩
 rw [hm.cell (by simp) (R.outN h rfl ht) o]
 exact zav _ _ _ _ rfl
theorem Mv.unbox {B:Nat} {T:σ->Nat->Prop} {s:σ} {T':Nat->Prop} {w w':World} {o:Obj} (h:Mv B (Tw T (w.alloc o) s) T' (w.alloc o) w') (hB:B<=w.heap.size):Mv B (Tw T w s) T' w w':=(((Mv.refl B (Tw T w s) w).alloc hB o).weak (λk hk=>hk.low (stA (st0 w) o))).trans h
theorem zbY (R:RS m B nr nw cr cw I T) (a:Int) (ha:0<=a) (ha':a<=65535) (w:World) (s:σ) (hI:I w s) :
 Calls Tryz.prog 91 #[.agg #[fw nr cr,fw nw cw],.int .u16 a] w λe w'=>e = .returned (.int .u16 (m.rdw s a).1)/\I w' (m.rdw s a).2/\Mv B (Tw T w s) (Tw T w' (m.rdw s a).2) w w':=by
 have HI:=hid hI
 have HR:=hid R
 have hB:=R.big hI
 clear hI R
 unfold C.Mem.rdw
 have hw:IntKind.u16.wrap (a+1)=(a+1)%65536:=IntKind.wrap_u16 _
 go_enter Tryz.func91,Tryz.ntmps91
 go_wp2_with (first
  | (go_at_call 180;first
      | (refine (HR.out.read _ (m.rd s a).2 ((a+1)%65536) (by omega) (by omega) HI1.out).mono ?_;rintro e w2 ⟨rfl,hI2,hm2⟩)
      | (refine (HR.out.read _ s a ha ha' (HR.out.kept HI.out (stA (st0 _) _))).mono ?_;rintro e w1 ⟨rfl,hI1,hm1⟩;obtain ⟨hz1,hc1⟩:=HR.out.box HI.out hm1;have c0:=hc1 0;have c1:=hc1 1;have HI1:=hid hI1;clear hc1 hI1))
  | (go_at_call 181;refine (zoD _ _ _ (HR.out.byte _ _).1 (HR.out.byte _ _).2 (HR.out.byte _ _).1 (HR.out.byte _ _).2).mono ?_;rintro e w' ⟨rfl,rfl⟩))
 go_ret
 exact ⟨rfl,hI2,(hm1.trans hm2).unbox hB⟩
theorem zdo (R:RS m B nr nw cr cw I T) (a n:Int) (ha:0<=a) (ha':a<=65535) (hn:0<=n) (hn':n<=65535) (w:World) (s:σ) (hfu:2<=m.fuel s) (hI:I w s) :
 Calls Tryz.prog 267 #[.agg #[fw nr cr,fw nw cw],.int .u16 a,.int .u16 n] w λe w'=>e = .returned (.tuple #[])/\I w' (m.wrw s a n)/\Mv B (Tw T w s) (Tw T w' (m.wrw s a n)) w w':=by
 have HI:=hid hI
 have HR:=hid R
 have hB:=R.big hI
 have hfu1:1<=m.fuel (m.wr s a (n/256)):=by have:=R.fwr s a (n/256);omega
 have hfu0:1<=m.fuel s:=by omega
 have HFU1:=hid hfu1
 have HFU0:=hid hfu0
 clear hI R hfu hfu0 hfu1
 unfold C.Mem.wrw
 have hw:IntKind.u16.wrap (a+1)=(a+1)%65536:=IntKind.wrap_u16 _
 go_enter Tryz.func267,Tryz.ntmps267
 go_wp2_with (first
  | (go_at_call 270;first
      | (refine (HR.out.write _ (m.wr s a (n/256)) ((a+1)%65536) (n%256) (by omega) (by omega) (by omega) (by omega) HFU1.out HI1.out).mono ?_;rintro e w2 ⟨rfl,hI2,hm2⟩)
      | (refine (HR.out.write _ s a (n/256) ha ha' (by omega) (by omega) HFU0.out (HR.out.kept HI.out (stA (st0 _) _))).mono ?_;rintro e w1 ⟨rfl,hI1,hm1⟩;obtain ⟨hz1,hc1⟩:=HR.out.box HI.out hm1;have c0:=hc1 0;have c1:=hc1 1;have HI1:=hid hI1;clear hc1 hI1))
  | (go_at_call 159;refine (zi2 n _ hn hn').mono ?_;rintro e w' ⟨rfl,rfl⟩))
 go_end0
 exact ⟨rfl,hI2,(hm1.trans hm2).unbox hB⟩
theorem RS.word (R:RS m B nr nw cr cw I T) (s:σ) (a:Int):0<=(m.rdw s a).1/\(m.rdw s a).1<=65535:=by
 have h1:=R.byte s a
 have h2:=R.byte (m.rd s a).2 ((a+1)%65536)
 unfold C.Mem.rdw
 simp only
 omega
theorem RS.frdw (R:RS m B nr nw cr cw I T) (s:σ) (a:Int):m.fuel s<=m.fuel (m.rdw s a).2:=by
 unfold C.Mem.rdw
 exact Nat.le_trans (R.frd s a) (R.frd _ _)
theorem RS.fwrw (R:RS m B nr nw cr cw I T) (s:σ) (a n:Int):m.fuel s<=m.fuel (m.wrw s a n)+2:=by
 unfold C.Mem.wrw
 have h1:=R.fwr s a (n/256)
 have h2:=R.fwr (m.wr s a (n/256)) ((a+1)%65536) (n%256)
 omega
theorem RS.fpush (R:RS m B nr nw cr cw I T) (x:C.St σ) (n:Int):m.fuel x.s<=m.fuel (C.push m x n).s+2:=R.fwrw _ _ _
theorem u16w (x:Int):IntKind.u16.wrap x=x%65536:=IntKind.wrap_u16 x
theorem zc4 (R:RS m B nr nw cr cw I T) (n:Int) (hn:0<=n) (hn':n<=65535) (w:World) (p:Nat) (x:C.St σ) (hfu:2<=m.fuel x.s) (hP:PI B nr nw cr cw I T w p x) :
 Calls Tryz.prog 256 #[.pointer (some ⟨p,0,none⟩),.int .u16 n] w λe w'=>e = .returned (.tuple #[])/\PI B nr nw cr cw I T w' p (C.push m x n)/\PM B T p x.s (C.push m x n).s w w':=by
 have h7:=hP.reg 7 (by omega)
 have hlt:=hP.lt
 have hf:=hP.frozen 7
 have hr:=C.Cpu.r_bd hP.ok 7
 have hw:=u16w (x.c.r 7-2)
 have HP:=hid hP
 have HR:=hid R
 have HP1:=hid (hP.putR R 7 (by omega) ((x.c.r 7-2)%65536) (by omega) (by omega))
 have HFU:=hid hfu
 clear hP R hfu
 go_enter Tryz.func256,Tryz.ntmps256
 go_wp2
 go_region
 go_wp2
 refine cutW (λW=>PI B nr nw cr cw I T W p ⟨x.c.set (7:Nat) ((x.c.r 7-2)%65536),x.s,x.n⟩/\PM B T p x.s x.s w W) ⟨HP1.out.same HR.out rfl,((PM.refl B T p x.s w).set HP.out.big 7 _).drew⟩ ?_
 rintro W ⟨hW,hmW⟩
 have q7:=hW.reg 7 (by omega)
 rw [C.Cpu.r_set HP.out.ok 7 (by omega)] at q7
 obtain ⟨_,_,_,_,_,_,_,q15,q16,_⟩:=hW.cells
 have hltW:=hW.lt
 have HW:=hid hW
 have HM:=hid hmW
 clear hW hmW h7 hlt hf hw HP1
 go_region_held3 (λw'=>w'.cell? ⟨p,7,none⟩=some (.int .u16 ((x.c.r 7-2)%65536))/\w'.cell? ⟨p,15,none⟩=some (fw nr cr)/\w'.cell? ⟨p,16,none⟩=some (fw nw cw))
  ((go_keep;done))
  ((go_at_call 267;refine (zdo HR.out _ _ (by omega) (by omega) hn hn' _ x.s HFU.out ?_).mono ?_;(exact HW.out.invS HR.out rfl);rintro e w1 ⟨rfl,hI1,hm1⟩;obtain ⟨k1,f1,z1⟩:=HW.out.after hm1 rfl))
 go_wp2
 go_end0
 exact ⟨rfl,HW.out.movedS HR.out hI1 hm1 rfl,HM.out.drew.moved hm1⟩
theorem zfh (R:RS m B nr nw cr cw I T) (w:World) (p:Nat) (x:C.St σ) (hP:PI B nr nw cr cw I T w p x) :
 Calls Tryz.prog 285 #[.pointer (some ⟨p,0,none⟩)] w λe w'=>e = .returned (.int .u16 (C.popV m x))/\PI B nr nw cr cw I T w' p (C.pop m x)/\PM B T p x.s (C.pop m x).s w w':=by
 have h7:w.cell? ⟨p,7,none⟩=some (.int .u16 (x.c.r 7)):=hP.reg 7 (by omega)
 obtain ⟨_,_,_,_,_,_,_,c15,c16,_⟩:=hP.cells
 have hlt:=hP.lt
 have hr:=C.Cpu.r_bd hP.ok 7
 have hr1:=hr.1
 have hr2:=hr.2
 have HP:=hid hP
 have HR:=hid R
 clear hP R hr
 go_enter Tryz.func285,Tryz.ntmps285
 go_wp2
 go_region_held3 (λw'=>w'.cell? ⟨p,7,none⟩=some (.int .u16 (x.c.r 7))/\w'.cell? ⟨p,15,none⟩=some (fw nr cr)/\w'.cell? ⟨p,16,none⟩=some (fw nw cw))
  ((go_keep;done))
  ((go_at_call 91;refine (zbY HR.out (x.c.r 7) hr1 hr2 _ x.s ?_).mono ?_;(exact HP.out.invS HR.out rfl);rintro e w1 ⟨rfl,hI1,hm1⟩;obtain ⟨k1,f1,z1⟩:=HP.out.after hm1 rfl))
 have hP1:=HP.out.movedS HR.out hI1 hm1 rfl
 have HP1:=hid (hP1.putR HR.out 7 (by omega) ((x.c.r 7+2)%65536) (by omega) (by omega))
 have hw:=u16w (x.c.r 7+2)
 clear hP1
 go_wp2
 go_region
 go_wp2
 go_ret
 exact ⟨rfl,HP1.out.same HR.out rfl,(((PM.refl B T p x.s w).drew.moved hm1).set HP.out.big 7 _).drew⟩
end
def signTo (b:Nat->Bool):Nat->Int
 | 0=>0
 | k+1=>signTo b k+(if b k then 2 ^ k else 0)
theorem zfQ (b:Nat->Bool):∀ k,0<=signTo b k/\signTo b k<2 ^ k
 | 0=>by simp [signTo]
 | k+1=>by
  have:=zfQ b k
  have e:(2:Int) ^ (k+1)=2*2 ^ k:=by rw [Int.pow_succ];omega
  simp only [signTo]
  rw [e]
  split <;> omega
theorem or_bit:∀ k:Nat,k<5->∀ s:Nat,s<32->s<2 ^ k->bits .or .u16 (s:Int) ((2 ^ k:Nat):Int)=((s+2 ^ k:Nat):Int):=by decide +kernel
theorem zdp (b:Nat->Bool) (k:Nat) (hk:k<5) (x:Int) (hx:x=((2 ^ k:Nat):Int)):bits .or .u16 (signTo b k) x=signTo b k+2 ^ k:=by
 obtain ⟨h0,h1⟩:=zfQ b k
 obtain ⟨s,hs⟩:=Int.eq_ofNat_of_zero_le h0
 have h2:s<2 ^ k:=by
  have:((s:Nat):Int)<((2 ^ k:Nat):Int):=by rw [<- hs];simpa using h1
  omega
 have h3:2 ^ k<=16:=by
  have:k=0 \/ k=1 \/ k=2 \/ k=3 \/ k=4:=by omega
  rcases this with rfl|rfl|rfl|rfl|rfl <;> decide
 rw [hs,hx,or_bit k hk s (by omega) h2]
 simp
def cbit (c:C.Cpu):Nat->Bool
 | 0=>c.Z|1=>c.N|2=>c.C|3=>c.V|_=>c.May
theorem znf (c:C.Cpu):signTo (cbit c) 5=C.sign c:=by
 simp only [signTo,cbit,C.sign]
 simp
theorem zoE (x0 x1 x2 x3 x4:Value) (w:World):(Instr.index 377 (.agg #[x0,x1,x2,x3,x4]) (.int .i64 0)).run Tryz.prog w = .ok x0 w:=by kernel_rfl
theorem zoF (x0 x1 x2 x3 x4:Value) (w:World):(Instr.index 377 (.agg #[x0,x1,x2,x3,x4]) (.int .i64 1)).run Tryz.prog w = .ok x1 w:=by kernel_rfl
theorem zoG (x0 x1 x2 x3 x4:Value) (w:World):(Instr.index 377 (.agg #[x0,x1,x2,x3,x4]) (.int .i64 2)).run Tryz.prog w = .ok x2 w:=by kernel_rfl
theorem zoH (x0 x1 x2 x3 x4:Value) (w:World):(Instr.index 377 (.agg #[x0,x1,x2,x3,x4]) (.int .i64 3)).run Tryz.prog w = .ok x3 w:=by kernel_rfl
theorem zoI (x0 x1 x2 x3 x4:Value) (w:World):(Instr.index 377 (.agg #[x0,x1,x2,x3,x4]) (.int .i64 4)).run Tryz.prog w = .ok x4 w:=by kernel_rfl
theorem zbz {b:Nat->Bool} {k:Nat} (h:b k=true):signTo b (k+1)=signTo b k+2 ^ k:=by simp [signTo,h]
theorem zbJ {b:Nat->Bool} {k:Nat} (h:b k=false):signTo b (k+1)=signTo b k:=by simp [signTo,h]
theorem ret_u {k:IntKind} {a b:Int} (h:a=b):Value.int k a = .int k b:=by rw [h]
theorem zi3 (c:C.Cpu) (w:World):Calls Tryz.prog 257 #[cpuV c] w λe w'=>e = .returned (.int .u16 (signTo (cbit c) 5))/\Below w.heap.size w w':=by
 go_enter Tryz.func257,Tryz.ntmps257
 go_wp2
 go_loop [3,17] (λs i=>∃ k:Nat,k<=5/\i = .int .i64 k/\s = .int .u16 (signTo (cbit c) k)) (λ_ i=>5-(intOf i).toNat)
 case atStart=>exact ⟨0,by omega,rfl,rfl⟩
 case round =>
  obtain ⟨k,hk,rfl,rfl⟩:=hrel
  have hc:k=0 \/ k=1 \/ k=2 \/ k=3 \/ k=4 \/ k=5:=by omega
  rcases hc with rfl|rfl|rfl|rfl|rfl|rfl
  ·have i0:=zoE
   by_cases hz:c.Z=true
   ·have hy:=hid (zbz (b:=cbit c) (k:=0) hz)
    go_wp2
    go_round
    case rel=>exact ⟨_,_,_,_,⟨1,by omega,by go_num,ret_u ((zdp (cbit c) 0 (by omega) _ (by decide)).trans hy.out.symm)⟩,rfl,rfl,rfl,rfl⟩
    case measure=>simp [intOf]
   ·have hz':c.Z=false:=by simpa using hz
    have hy:=hid (zbJ (b:=cbit c) (k:=0) hz')
    clear hz
    go_wp2
    go_round
    case rel=>exact ⟨_,_,_,_,⟨1,by omega,by go_num,ret_u hy.out.symm⟩,rfl,rfl,rfl,rfl⟩
    case measure=>simp [intOf]
  ·have i0:=zoF
   by_cases hz:c.N=true
   ·have hy:=hid (zbz (b:=cbit c) (k:=1) hz)
    go_wp2
    go_round
    case rel=>exact ⟨_,_,_,_,⟨2,by omega,by go_num,ret_u ((zdp (cbit c) 1 (by omega) _ (by decide)).trans hy.out.symm)⟩,rfl,rfl,rfl,rfl⟩
    case measure=>simp [intOf]
   ·have hz':c.N=false:=by simpa using hz
    have hy:=hid (zbJ (b:=cbit c) (k:=1) hz')
    clear hz
    go_wp2
    go_round
    case rel=>exact ⟨_,_,_,_,⟨2,by omega,by go_num,ret_u hy.out.symm⟩,rfl,rfl,rfl,rfl⟩
    case measure=>simp [intOf]
  ·have i0:=zoG
   by_cases hz:c.C=true
   ·have hy:=hid (zbz (b:=cbit c) (k:=2) hz)
    go_wp2
    go_round
    case rel=>exact ⟨_,_,_,_,⟨3,by omega,by go_num,ret_u ((zdp (cbit c) 2 (by omega) _ (by decide)).trans hy.out.symm)⟩,rfl,rfl,rfl,rfl⟩
    case measure=>simp [intOf]
   ·have hz':c.C=false:=by simpa using hz
    have hy:=hid (zbJ (b:=cbit c) (k:=2) hz')
    clear hz
    go_wp2
    go_round
    case rel=>exact ⟨_,_,_,_,⟨3,by omega,by go_num,ret_u hy.out.symm⟩,rfl,rfl,rfl,rfl⟩
    case measure=>simp [intOf]
  ·have i0:=zoH
   by_cases hz:c.V=true
   ·have hy:=hid (zbz (b:=cbit c) (k:=3) hz)
    go_wp2
    go_round
    case rel=>exact ⟨_,_,_,_,⟨4,by omega,by go_num,ret_u ((zdp (cbit c) 3 (by omega) _ (by decide)).trans hy.out.symm)⟩,rfl,rfl,rfl,rfl⟩
    case measure=>simp [intOf]
   ·have hz':c.V=false:=by simpa using hz
    have hy:=hid (zbJ (b:=cbit c) (k:=3) hz')
    clear hz
    go_wp2
    go_round
    case rel=>exact ⟨_,_,_,_,⟨4,by omega,by go_num,ret_u hy.out.symm⟩,rfl,rfl,rfl,rfl⟩
    case measure=>simp [intOf]
  ·have i0:=zoI
   by_cases hz:c.May=true
   ·have hy:=hid (zbz (b:=cbit c) (k:=4) hz)
    go_wp2
    go_round
    case rel=>exact ⟨_,_,_,_,⟨5,by omega,by go_num,ret_u ((zdp (cbit c) 4 (by omega) _ (by decide)).trans hy.out.symm)⟩,rfl,rfl,rfl,rfl⟩
    case measure=>simp [intOf]
   ·have hz':c.May=false:=by simpa using hz
    have hy:=hid (zbJ (b:=cbit c) (k:=4) hz')
    clear hz
    go_wp2
    go_round
    case rel=>exact ⟨_,_,_,_,⟨5,by omega,by go_num,ret_u hy.out.symm⟩,rfl,rfl,rfl,rfl⟩
    case measure=>simp [intOf]
  ·go_wp2
   go_ret
   exact ⟨rfl,stA (st0 _) _⟩
theorem zlj (c:C.Cpu) (w:World):Calls Tryz.prog 257 #[cpuV c] w λe w'=>e = .returned (.int .u16 (C.sign c))/\Below w.heap.size w w':=by
 rw [<- znf];exact zi3 c w
end Go.Proofs.YtbennamieealbaaGreatDoor
