/-
  Parts of a proof, joined.
-/
import Derived.Test.YtbhpfkjfijdmaaaGreatDoorZv35
import Derived.Test.YtbhpfkjfijdmaaaGreatDoorZv15
import Derived.Test.YtbhpfkjfijdmaaaGreatDoorZv13
import Derived.Test.YtbhpfkjfijdmaaaGreatDoorZv29
import Derived.Test.YtbhpfkjfijdmaaaGreatDoorZv32
namespace Go.Proofs.YtbhpfkjfijdmaaaGreatDoor
open Go.ChangeShapes Go.WideShapes Go.ChangeAt Go.RowKit
set_option linter.unusedVariables false
set_option maxRecDepth 100000
set_option maxHeartbeats 3200000
/-! ### what no processor touches: where the beam is, when the next sample comes -/
structure Mach.alike (M M' : Mach) : Prop where
 l:M'.b.l=M.b.l
 a:M'.b.a=M.b.a
 f:M'.b.f=M.b.f
 w:M'.s.w=M.s.w
theorem alike_refl (M:Mach):M.alike M:=⟨rfl,rfl,rfl,rfl⟩
theorem Mach.alike.trans {M M' M'':Mach} (h:M.alike M') (k:M'.alike M''):M.alike M'':=⟨k.l.trans h.l,k.a.trans h.a,k.f.trans h.f,k.w.trans h.w⟩
theorem xfer_alike (M:Mach):∀ k,M.alike (M.xfer k)
 | 0=>alike_refl M
 | k+1=>(xfer_alike M k).trans ⟨rfl,rfl,rfl,rfl⟩
theorem rdM_alike (M:Mach) (a:Int):M.alike (M.rdM a).2:=by
 unfold Mach.rdM
 split
 ·unfold Mach.portM
  split <;> exact ⟨rfl,rfl,rfl,rfl⟩
 ·exact alike_refl M
theorem rdA_alike (M:Mach) (a:Int):M.alike (M.rdA a).2:=by
 unfold Mach.rdA
 split
 ·unfold Mach.portA
  split <;> exact ⟨rfl,rfl,rfl,rfl⟩
 ·exact alike_refl M
theorem letGo_alike (M:Mach) (n:Int):M.alike (M.letGo n):=by
 unfold Mach.letGo
 split <;> exact ⟨rfl,rfl,rfl,rfl⟩
theorem wrM_alike (M:Mach) (a n:Int):M.alike (M.wrM a n):=by
 unfold Mach.wrM
 split
 ·unfold Mach.putM
  split
  all_goals first
   | exact ⟨rfl,rfl,rfl,rfl⟩
   | exact xfer_alike _ _
   | exact letGo_alike _ _
 ·unfold Mach.memM
  split
  ·exact alike_refl M
  ·split
   ·exact ⟨rfl,rfl,rfl,rfl⟩
   ·split <;> exact ⟨rfl,rfl,rfl,rfl⟩
theorem sput_w (s:Sd) (p:Nat) (n:Int):(s.put p n).w=s.w:=by
 unfold Sd.put
 split
 ·rfl
 ·split <;> rfl
theorem wrA_alike (M:Mach) (a n:Int):M.alike (M.wrA a n):=by
 unfold Mach.wrA
 split
 ·unfold Mach.putA
  split
  ·exact ⟨rfl,rfl,rfl,sput_w _ _ _⟩
  ·split <;> exact ⟨rfl,rfl,rfl,rfl⟩
 ·unfold Mach.memA
  split
  ·exact alike_refl M
  ·split
   ·exact ⟨rfl,rfl,rfl,rfl⟩
   ·split
    ·split <;> exact ⟨rfl,rfl,rfl,rfl⟩
    ·exact alike_refl M
theorem stepMain_alike (s:Bst):s.M.alike s.stepMain.M:=by
 unfold Bst.stepMain
 split
 ·exact alike_refl _
 ·have h:=C.keeps_step (m:=mainMem) (P:=fun x=>s.M.alike x.M) (fun x a h=>h.trans (rdM_alike x.M a)) (fun x a b h=>h.trans (wrM_alike x.M a _)) s.M.main ⟨s.M,0,s.l⟩ (s.M.t.g || s.M.b.g) (alike_refl _)
  exact ⟨h.l,h.a,h.f,h.w⟩
theorem stepAux_alike (s:Bst):s.M.alike s.stepAux.M:=by
 unfold Bst.stepAux
 split
 ·exact alike_refl _
 ·have h:=C.keeps_step (m:=auxMem) (P:=fun x=>s.M.alike x.M) (fun x a h=>h.trans (rdA_alike x.M a)) (fun x a b h=>h.trans (wrA_alike x.M a _)) s.M.aux s s.M.rung (alike_refl _)
  exact ⟨h.l,h.a,h.f,h.w⟩
theorem press_alike (M:Mach) (x:Inp):M.alike (M.press x):=by
 unfold Mach.press
 split <;> exact ⟨rfl,rfl,rfl,rfl⟩
theorem pressed_alike:∀ (l:List Inp) (M:Mach),M.alike (M.pressed l)
 | [],M=>alike_refl M
 | x :: l,M=>by
  unfold Mach.pressed
  split
  ·exact (press_alike M x).trans (pressed_alike l _)
  ·exact alike_refl M
theorem now_alike (k:Cs):k.s.M.alike k.now.s.M :=
 (pressed_alike k.co k.s.M).trans ((stepMain_alike ⟨k.s.M.pressed k.co,k.s.n,k.s.l⟩).trans (stepAux_alike _))
structure Cs.runs (k0 k : Cs) (j : Nat) : Prop where
 l:k.s.M.b.l=bmL k0.s.M.b.l k0.s.M.b.a j
 a:k.s.M.b.a=bmA k0.s.M.b.l k0.s.M.b.a j
 f:k.s.M.b.f=bmF k0.s.M.b.l k0.s.M.b.a k0.s.M.b.f j
 w:k.s.M.s.w=(k0.s.M.s.ticks j).w
theorem ticks_w {s s':Sd} (h:s.w=s'.w):(s.ticks 1).w=(s'.ticks 1).w:=by
 show (if s.w=0 then 15 else s.w - 1)=(if s'.w=0 then 15 else s'.w - 1)
 rw [h]
theorem clocks_runs (k0:Cs) (hb:BOk k0.s.M.b.l k0.s.M.b.a k0.s.M.b.f) (hf:k0.s.M.b.f<=19000):∀ j:Nat,j<=20000->Cs.runs k0 (k0.clocks j) j
 | 0,_=>by
  have:=bm_zero k0.s.M.b.l k0.s.M.b.a k0.s.M.b.f false ⟨hb.l0,hb.l1⟩ ⟨hb.a0,hb.a1⟩
  exact ⟨this.1.symm,this.2.1.symm,this.2.2.2.symm,rfl⟩
 | j+1,hj=>by
  have ih:=clocks_runs k0 hb hf j (by omega)
  obtain ⟨k,hk⟩:∃ k,k=k0.clocks j:=⟨_,rfl⟩
  have e:k0.clocks (j+1)=k.clock:=by rw [hk];rfl
  rw [<- hk] at ih
  rw [e]
  have hn:=now_alike k
  have l0:=hb.l0;have l1:=hb.l1;have a0:=hb.a0;have a1:=hb.a1;have f0:=hb.f0
  have e1:k.now.s.M.b.l=bmL k0.s.M.b.l k0.s.M.b.a j:=hn.l.trans ih.l
  have e2:k.now.s.M.b.a=bmA k0.s.M.b.l k0.s.M.b.a j:=hn.a.trans ih.a
  have e3:k.now.s.M.b.f=bmF k0.s.M.b.l k0.s.M.b.a k0.s.M.b.f j:=hn.f.trans ih.f
  have hbd:=bm_bd k0.s.M.b.l k0.s.M.b.a j ⟨l0,l1⟩ ⟨a0,a1⟩ (by omega)
  have hF:0<=bmF k0.s.M.b.l k0.s.M.b.a k0.s.M.b.f j/\bmF k0.s.M.b.l k0.s.M.b.a k0.s.M.b.f j<=20000:=by unfold bmF;omega
  have hok:bok k.now.s.M.b.l k.now.s.M.b.a k.now.s.M.b.f=true:=by
   rw [e1,e2,e3]
   exact (bok_iff _ _ _).2 ⟨hbd.1.1,hbd.1.2,hbd.2.1,hbd.2.2,hF.1,hF.2⟩
  have hadd:=bm_add k0.s.M.b.l k0.s.M.b.a k0.s.M.b.f j 1 false ⟨l0,l1⟩ ⟨a0,a1⟩ (by omega) (by omega)
  have ho:k.clock.s.M.b=⟨bmL k.now.s.M.b.l k.now.s.M.b.a 1,bmA k.now.s.M.b.l k.now.s.M.b.a 1,bmG k.now.s.M.b.l k.now.s.M.b.a k.now.s.M.b.g 1,bmF k.now.s.M.b.l k.now.s.M.b.a k.now.s.M.b.f 1⟩:=by
   show k.now.s.M.b.one=_
   unfold Bem.one
   rw [if_pos hok]
  refine ⟨?_,?_,?_,?_⟩
  ·rw [ho];show bmL k.now.s.M.b.l k.now.s.M.b.a 1=_
   rw [e1,e2,hadd.1];push_cast;rfl
  ·rw [ho];show bmA k.now.s.M.b.l k.now.s.M.b.a 1=_
   rw [e1,e2,hadd.2.1];push_cast;rfl
  ·rw [ho];show bmF k.now.s.M.b.l k.now.s.M.b.a k.now.s.M.b.f 1=_
   rw [e1,e2,e3,hadd.2.2.2];push_cast;rfl
  ·show (k.now.s.M.s.ticks 1).w=_
   rw [ticks_w (s:=k.now.s.M.s) (s':=k0.s.M.s.ticks j) (hn.w.trans ih.w),Sd.ticks_add]
/-! ### how many samples -/
theorem sms1_len (s s':Sd) (h:s.w=s'.w):(if s.w=0 then sms s 1 else []).length=(one s').length:=by
 unfold one
 rw [h]
 split
 ·rename_i h0
  show ([]++one s).length=_
  unfold one
  rw [if_pos (h.trans h0)]
  rfl
 ·rfl
theorem clocks_sm (k0:Cs) (hb:BOk k0.s.M.b.l k0.s.M.b.a k0.s.M.b.f) (hf:k0.s.M.b.f<=19000):∀ j:Nat,j<=20000->(k0.clocks j).sm.length=k0.sm.length+(sms k0.s.M.s j).length
 | 0,_=>by simp [Cs.clocks,sms]
 | j+1,hj=>by
  have ih:=clocks_sm k0 hb hf j (by omega)
  have hr:=clocks_runs k0 hb hf j (by omega)
  obtain ⟨k,hk⟩:∃ k,k=k0.clocks j:=⟨_,rfl⟩
  have e:k0.clocks (j+1)=k.clock:=by rw [hk];rfl
  rw [<- hk] at ih hr
  rw [e]
  show (k.sm++(k.s.M.pressed k.co).sample).length=_
  have h1:((k.s.M.pressed k.co).sample).length=(one (k0.s.M.s.ticks j)).length:=sms1_len _ _ ((pressed_alike k.co k.s.M).w.trans hr.w)
  rw [List.length_append,ih,h1]
  simp only [sms,List.length_append]
  omega
/-! ### which lines -/
def lineAt (l a f:Int) (j:Nat):Option (Int × Int):=if bmA l a j=0/\bmL l a j < 8 then some (bmF l a f j,bmL l a j) else none
def linesAt (l a f:Int):Nat->List (Int × Int)
 | 0=>[]
 | j+1=>linesAt l a f j++(lineAt l a f j).toList
theorem clocks_ln (k0:Cs) (hb:BOk k0.s.M.b.l k0.s.M.b.a k0.s.M.b.f) (hf:k0.s.M.b.f<=19000) (h0:k0.ln=[]):∀ j:Nat,j<=20000->(k0.clocks j).ln.map (fun x=>(x.f,x.l))=linesAt k0.s.M.b.l k0.s.M.b.a k0.s.M.b.f j
 | 0,_=>by simp [Cs.clocks,linesAt,h0]
 | j+1,hj=>by
  have ih:=clocks_ln k0 hb hf h0 j (by omega)
  have hr:=clocks_runs k0 hb hf j (by omega)
  obtain ⟨k,hk⟩:∃ k,k=k0.clocks j:=⟨_,rfl⟩
  have e:k0.clocks (j+1)=k.clock:=by rw [hk];rfl
  rw [<- hk] at ih hr
  rw [e]
  show (k.ln++(k.s.M.pressed k.co).line).map _=_
  have hp:=pressed_alike k.co k.s.M
  have e1:=hp.l.trans hr.l
  have e2:=hp.a.trans hr.a
  have e3:=hp.f.trans hr.f
  rw [List.map_append,ih]
  simp only [linesAt]
  congr 1
  unfold Mach.line lineAt
  rw [e1,e2,e3]
  split <;> rfl
/-! ### who is held, and waits -/
section
variable {l a f : Int}
theorem lines_gap {p q:Nat} (h:p<=q) (hg:∀ j:Nat,p<=j->j < q->bmA l a j ≠ 0):linesAt l a f q=linesAt l a f p:=by
 induction q with
 | zero=>
  have:p=0:=by omega
  rw [this]
 | succ q ih =>
  by_cases hq:p=q+1
  ·rw [hq]
  ·show linesAt l a f q++(lineAt l a f q).toList=_
   have h1:lineAt l a f q=none:=by
    unfold lineAt
    rw [if_neg (fun hh=>hg q (by omega) (by omega) hh.1)]
   rw [h1,ih (by omega) (fun j h1 h2=>hg j h1 (by omega))]
   simp
structure Beg (l a : Int) (k : Nat) : Prop where
 z:bmA l a k=0
 pos:0<=l * 64+a
theorem beg_next {k:Nat} (h:Beg l a k):Beg l a (k+64)/\linesAt l a f (k+64)=linesAt l a f k++(lineAt l a f k).toList:=by
 have h0:=h.z
 have h1:=h.pos
 unfold bmA at h0
 refine ⟨⟨by unfold bmA;omega,h1⟩,?_⟩
 rw [lines_gap (p:=k+1) (by omega) (fun j hj hj2=>by unfold bmA;omega)]
 rfl
end
structure Bat (W : World) (b : Nat) (l a : Int) (g : Bool) (f : Int) : Prop where
 z:b < W.heap.size
 c0:W.cell? ⟨b,0,none⟩=some (.int .i64 l)
 c1:W.cell? ⟨b,1,none⟩=some (.int .i64 a)
 c2:W.cell? ⟨b,2,none⟩=some (.bool g)
 c3:W.cell? ⟨b,3,none⟩=some (.int .i64 f)
 f:∀ o,W.frozen? ⟨b,o,none⟩=false
section
variable {W w1 : World} {b : Nat} {l a f : Int} {g : Bool}
theorem Bat.kept (h:Bat W b l a g f) (hb:Below W.heap.size W w1):Bat w1 b l a g f :=
 ⟨Nat.lt_of_lt_of_le h.z hb.size,(hb.cell (p:=⟨b,0,none⟩) h.z).trans h.c0,(hb.cell (p:=⟨b,1,none⟩) h.z).trans h.c1,(hb.cell (p:=⟨b,2,none⟩) h.z).trans h.c2,(hb.cell (p:=⟨b,3,none⟩) h.z).trans h.c3,fun o=>(hb.frozen (p:=⟨b,o,none⟩) h.z).trans (h.f o)⟩
theorem Bat.over (h:Bat W b l a g f) (o:Obj):Bat (W.alloc o) b l a g f:=h.kept (stA (st0 W) o)
theorem Bat.new (W:World) (l a:Int) (g:Bool) (f:Int):Bat (W.alloc (.cells #[.int .i64 l,.int .i64 a,.bool g,.int .i64 f] 38)) W.heap.size l a g f :=
 ⟨by simp,Pl.new _ _ _ _ rfl,Pl.new _ _ _ _ rfl,Pl.new _ _ _ _ rfl,Pl.new _ _ _ _ rfl,fun o=>Lib.frozen_of_heap (heap_alloc_new W _) o⟩
theorem Bat.far (h:Bat W b l a g f) {b' o':Nat} (hne:b' ≠ b) (v:Value):Bat (W.setCell ⟨b',o',none⟩ v) b l a g f:=by
 have e:∀ o,(W.setCell ⟨b',o',none⟩ v).cell? ⟨b,o,none⟩=W.cell? ⟨b,o,none⟩:=fun o=>World.cell?_setCell_far W _ _ v hne
 exact ⟨by simpa using h.z,(e 0).trans h.c0,(e 1).trans h.c1,(e 2).trans h.c2,(e 3).trans h.c3,fun o=>by simpa using h.f o⟩
theorem Bat.put2 (h:Bat W b l a g f) (g':Bool):Bat (W.setCell ⟨b,2,none⟩ (.bool g')) b l a g' f:=by
 have e:∀ o,o ≠ 2->(W.setCell ⟨b,2,none⟩ (.bool g')).cell? ⟨b,o,none⟩=W.cell? ⟨b,o,none⟩:=fun o ho=>World.cell?_setCell_other _ _ _ _ (by intro e;exact ho (congrArg Addr.off e).symm)
 exact ⟨by simpa using h.z,(e 0 (by omega)).trans h.c0,(e 1 (by omega)).trans h.c1,World.cell?_setCell_same' _ _ _ (by rw [h.c2];rfl),(e 3 (by omega)).trans h.c3,fun o=>by simpa using h.f o⟩
theorem Bat.drew (h:Bat W b l a g f):Bat W.drew b l a g f:=⟨h.z,h.c0,h.c1,h.c2,h.c3,h.f⟩
theorem Bat.range (h:Bat W b l a g f):W.rangeAt b 0 [.int .i64 l,.int .i64 a,.bool g,.int .i64 f]:=fun j v hj=>by
 rw [Nat.zero_add]
 match j,hj with
 | 0,hj=>rw [h.c0];simpa using hj
 | 1,hj=>rw [h.c1];simpa using hj
 | 2,hj=>rw [h.c2];simpa using hj
 | 3,hj=>rw [h.c3];simpa using hj
theorem Bat.puts (h:Bat W b l a g f) (l' a':Int) (g':Bool) (f':Int):Bat ((((W.setCell ⟨b,0,none⟩ (.int .i64 l')).setCell ⟨b,1,none⟩ (.int .i64 a')).setCell ⟨b,2,none⟩ (.bool g')).setCell ⟨b,3,none⟩ (.int .i64 f')) b l' a' g' f':=by
 have ht:W.there b 0 4:=fun j hj=>by
  refine ⟨?_,h.f _⟩
  rw [Nat.zero_add]
  match j,hj with
  | 0,_=>rw [h.c0];rfl
  | 1,_=>rw [h.c1];rfl
  | 2,_=>rw [h.c2];rfl
  | 3,_=>rw [h.c3];rfl
 have hr:=World.rangeAt_setCells_same W b 0 [.int .i64 l',.int .i64 a',.bool g',.int .i64 f'] ht
 simp only [World.setCells,Nat.zero_add,Nat.reduceAdd] at hr
 exact ⟨by simpa using h.z,hr 0 _ rfl,hr 1 _ rfl,hr 2 _ rfl,hr 3 _ rfl,fun o=>by simpa using h.f o⟩
theorem Bat.below (h:Bat W b l a g f) {w:World} (hB:Below w.heap.size w W) (hb:w.heap.size<=b) (l' a':Int) (g':Bool) (f':Int):Below w.heap.size w ((((W.setCell ⟨b,0,none⟩ (.int .i64 l')).setCell ⟨b,1,none⟩ (.int .i64 a')).setCell ⟨b,2,none⟩ (.bool g')).setCell ⟨b,3,none⟩ (.int .i64 f')) :=
 (((hB.setCell hb _).setCell hb _).setCell hb _).setCell hb _
end
structure RunB (w : World) (B : Nat) (l a : Int) (g : Bool) (f : Int) (W : World) : Prop where
 low:Below w.heap.size w W
 t:Bat W w.heap.size l a g f
 r:Bat W (w.heap.size+1) 0 0 false 0
 q:W.cell? ⟨B,0,none⟩=some (.int .i64 640)
 z:B < W.heap.size
 ne:w.heap.size < B
theorem RunB.drew {w W:World} {B:Nat} {l a f:Int} {g:Bool} (h:RunB w B l a g f W):RunB w B l a g f W.drew:=⟨h.low.drew,h.t.drew,h.r.drew,h.q,h.z,h.ne⟩
theorem runB_mk {w w1:World} {l a f:Int} {g x:Bool}
 (hb1:Below ((w.alloc (.cells #[.int .i64 l,.int .i64 a,.bool g,.int .i64 f] 38)).alloc (.cells #[.int .i64 0,.int .i64 0,.bool false,.int .i64 0] 38)).heap.size ((w.alloc (.cells #[.int .i64 l,.int .i64 a,.bool g,.int .i64 f] 38)).alloc (.cells #[.int .i64 0,.int .i64 0,.bool false,.int .i64 0] 38)) w1) :
 RunB w (w1.heap.size+1) l a x f (((w1.setCell ⟨w.heap.size,2,none⟩ (.bool x)).alloc (.cells #[.int .i64 512] 3)).alloc (.cells #[.int .i64 640] 3)):=by
 have hB:=stp (stA (stA (st0 w) _) _) hb1
 have ht:=((Bat.new w l a g f).over (.cells #[.int .i64 0,.int .i64 0,.bool false,.int .i64 0] 38)).kept hb1
 have hr0:=Bat.new (w.alloc (.cells #[.int .i64 l,.int .i64 a,.bool g,.int .i64 f] 38)) 0 0 false 0
 have e:(w.alloc (.cells #[.int .i64 l,.int .i64 a,.bool g,.int .i64 f] 38)).heap.size=w.heap.size+1:=by simp
 rw [e] at hr0
 have hr:=hr0.kept hb1
 refine ⟨stA (stA (hB.setCell (Nat.le_refl _) _) _) _,((ht.put2 x).over _).over _,((hr.far (by omega) _).over _).over _,Pl.new _ _ _ _ (by simp),by simp,?_⟩
 have:=ht.z
 omega
theorem Bm.resB {w w1:World} {l a f:Int} {g:Bool}
 (hb1:Below ((w.alloc (.cells #[.int .i64 l,.int .i64 a,.bool g,.int .i64 f] 38)).alloc (.cells #[.int .i64 0,.int .i64 0,.bool false,.int .i64 0] 38)).heap.size ((w.alloc (.cells #[.int .i64 l,.int .i64 a,.bool g,.int .i64 f] 38)).alloc (.cells #[.int .i64 0,.int .i64 0,.bool false,.int .i64 0] 38)) w1) :
 Below w.heap.size w ((((w1.setCell ⟨w.heap.size+1,0,none⟩ (.int .i64 0)).setCell ⟨w.heap.size+1,1,none⟩ (.int .i64 0)).setCell ⟨w.heap.size+1,2,none⟩ (.bool false)).setCell ⟨w.heap.size+1,3,none⟩ (.int .i64 0))/\((((w1.setCell ⟨w.heap.size+1,0,none⟩ (.int .i64 0)).setCell ⟨w.heap.size+1,1,none⟩ (.int .i64 0)).setCell ⟨w.heap.size+1,2,none⟩ (.bool false)).setCell ⟨w.heap.size+1,3,none⟩ (.int .i64 0)).rangeAt (w.heap.size+1) 0 [.int .i64 0,.int .i64 0,.bool false,.int .i64 0]:=by
 have hB:=stp (stA (stA (st0 w) _) _) hb1
 have hr0:=Bat.new (w.alloc (.cells #[.int .i64 l,.int .i64 a,.bool g,.int .i64 f] 38)) 0 0 false 0
 have e:(w.alloc (.cells #[.int .i64 l,.int .i64 a,.bool g,.int .i64 f] 38)).heap.size=w.heap.size+1:=by simp
 rw [e] at hr0
 have hr:=hr0.kept hb1
 exact ⟨hr.below hB (by omega) 0 0 false 0,(hr.puts 0 0 false 0).range⟩
theorem RunB.fin {w W:World} {B:Nat} {l a f:Int} {x:Bool} (h:RunB w B l a x f W) (l' a' f':Int) :
 Below w.heap.size w (((((((W.setCell ⟨w.heap.size,3,none⟩ (.int .i64 f')).setCell ⟨w.heap.size,0,none⟩ (.int .i64 l')).setCell ⟨w.heap.size,1,none⟩ (.int .i64 a')).setCell ⟨w.heap.size+1,0,none⟩ (.int .i64 l')).setCell ⟨w.heap.size+1,1,none⟩ (.int .i64 a')).setCell ⟨w.heap.size+1,2,none⟩ (.bool x)).setCell ⟨w.heap.size+1,3,none⟩ (.int .i64 f')).drew/\(((((((W.setCell ⟨w.heap.size,3,none⟩ (.int .i64 f')).setCell ⟨w.heap.size,0,none⟩ (.int .i64 l')).setCell ⟨w.heap.size,1,none⟩ (.int .i64 a')).setCell ⟨w.heap.size+1,0,none⟩ (.int .i64 l')).setCell ⟨w.heap.size+1,1,none⟩ (.int .i64 a')).setCell ⟨w.heap.size+1,2,none⟩ (.bool x)).setCell ⟨w.heap.size+1,3,none⟩ (.int .i64 f')).drew.rangeAt (w.heap.size+1) 0 [.int .i64 l',.int .i64 a',.bool x,.int .i64 f']:=by
 have hb:=((h.low.setCell (p:=⟨w.heap.size,3,none⟩) (Nat.le_refl _) (.int .i64 f')).setCell (p:=⟨w.heap.size,0,none⟩) (Nat.le_refl _) (.int .i64 l')).setCell (p:=⟨w.heap.size,1,none⟩) (Nat.le_refl _) (.int .i64 a')
 have hr:=((h.r.far (by omega) (.int .i64 f') (o':=3) (b':=w.heap.size)).far (by omega) (.int .i64 l') (o':=0) (b':=w.heap.size)).far (by omega) (.int .i64 a') (o':=1) (b':=w.heap.size)
 exact ⟨(hr.below hb (by omega) l' a' x f').drew,(hr.puts l' a' x f').drew.range⟩
theorem Bm.run_any (l a f n:Int) (g:Bool) (w:World) (h:BOk l a f) (hn:0<=n/\n<=20000) :
 Calls Tryz.prog 56 #[.agg #[.int .i64 l,.int .i64 a,.bool g,.int .i64 f],.int .i64 n] w fun e w'=>e = .returned (.tuple #[.agg #[.int .i64 (bmL l a n),.int .i64 (bmA l a n),.bool (bmG l a g n),.int .i64 (bmF l a f n)],.int .i64 0])/\Below w.heap.size w w':=by
 have H:=hid h
 have hw:=wthn_yes hn.1 hn.2
 obtain ⟨l0,l1,a0,a1,f0,f1⟩:=h
 obtain ⟨n0,n1⟩:=hn
 have p0:0<=l * 64+a:=by omega
 have p1:l * 64+a<=639:=by omega
 have m1:Int.tmod (l * 64+a+n) 640=(l * 64+a+n) % 640:=Int.tmod_eq_emod_of_nonneg (by omega)
 have m2:Int.tmod (l * 64+a+n) 64=(l * 64+a+n) % 64:=Int.tmod_eq_emod_of_nonneg (by omega)
 have m3:Int.tdiv ((l * 64+a+n) % 640) 64=(l * 64+a+n) % 640 / 64:=Int.tdiv_eq_ediv_of_nonneg (by omega)
 cases g
 ·go_enter Tryz.func56,Tryz.ntmps56
  go_wp2_with (first
   | (go_at_call 94;refine (Bm.check_yes l a f _ _ H.out).mono ?_;rintro e w1 ⟨rfl,hb1⟩;obtain ⟨k1,f1⟩:=bcell hb1;have z1:w.heap.size+1 < w1.heap.size:=Nat.lt_of_lt_of_le (by simp) hb1.size;have z0:w.heap.size < w1.heap.size:=Nat.lt_of_succ_lt z1)
   | (go_at_call 95;refine (Bm.within_any _ _ _).mono ?_;rintro e w0 ⟨rfl,rfl⟩)
   | (go_at_call 96;refine (Bm.each_any _ _).mono ?_;rintro e w0 ⟨rfl,rfl⟩)
   | (go_at_call 143;refine (Bm.often_any 512 _ w1.heap.size _ (by omega) (by omega) (by simp) (by simp;omega)).mono ?_;rintro e w0 ⟨rfl,rfl⟩))
  have hG:bmG l a false n=decide ((l * 64+a+640 - 512) / 640 < (l * 64+a+n+640 - 512) / 640):=by
   unfold bmG;rw [Bool.false_or,decide_eq_decide];omega
  have HG:=hid hG
  clear hG
  refine Pl.cutW (fun W=>RunB w (w1.heap.size+1) l a (bmG l a false n) f W) (by rw [HG.out];exact runB_mk hb1) ?_
  rintro W hK
  have HK:=hid hK
  clear hK
  generalize hB:w1.heap.size+1=B at *
  clear hb1 k1 f1 z1 z0
  have tz:=HK.out.t.z
  obtain ⟨_,t0,t1,t2,t3,_⟩:=HK.out.t
  have ew:IntKind.i64.wrap (f+(l * 64+a+n) / 640)=f+(l * 64+a+n) / 640:=by rw [IntKind.wrap_i64];omega
  obtain ⟨_,r0,r1,r2,r3,_⟩:=HK.out.r
  have tf:=HK.out.t.f
  have rz:=HK.out.r.z
  have rf:=HK.out.r.f
  go_region_with ((go_at_call 143;refine (Bm.often_any 640 _ B _ (by omega) (by omega) (by first | exact HK.out.q | exact HK.out.drew.q) (by first | exact HK.out.z | exact HK.out.drew.z)).mono ?_;rintro e w0 ⟨rfl,rfl⟩))
  all_goals go_wp2
  all_goals
   have hF:=HK.out.fin ((l * 64+a+n) % 640 / 64) ((l * 64+a+n) % 64) (f+(l * 64+a+n) / 640)
   refine Pl.cutB (fun Y=>Below w.heap.size w Y/\Y.rangeAt (w.heap.size+1) 0 [.int .i64 (bmL l a n),.int .i64 (bmA l a n),.bool (bmG l a false n),.int .i64 (bmF l a f n)]) hF ?_
   rintro Y ⟨hY,hR⟩
   have hl:=load_beam Y _ _ _ _ _ hR
   refine bodyPost_ret (v:=.tuple #[.agg #[.int .i64 (bmL l a n),.int .i64 (bmA l a n),.bool (bmG l a false n),.int .i64 (bmF l a f n)],.int .i64 0]) ?_ rfl ⟨rfl,hY⟩
   simp only [results,Tryz.results56]
   simp
   show (Result.andThen (Sem.run Tryz.prog (loadVar 38 ⟨w.heap.size+1,0,none⟩) Y) _)=_
   rw [hl]
   rfl
 ·go_enter Tryz.func56,Tryz.ntmps56
  go_wp2_with (first
   | (go_at_call 94;refine (Bm.check_yes l a f _ _ H.out).mono ?_;rintro e w1 ⟨rfl,hb1⟩;obtain ⟨k1,f1⟩:=bcell hb1;have z1:w.heap.size+1 < w1.heap.size:=Nat.lt_of_lt_of_le (by simp) hb1.size;have z0:w.heap.size < w1.heap.size:=Nat.lt_of_succ_lt z1)
   | (go_at_call 95;refine (Bm.within_any _ _ _).mono ?_;rintro e w0 ⟨rfl,rfl⟩)
   | (go_at_call 96;refine (Bm.each_any _ _).mono ?_;rintro e w0 ⟨rfl,rfl⟩)
   | (go_at_call 143;refine (Bm.often_any 512 _ w1.heap.size _ (by omega) (by omega) (by simp) (by simp;omega)).mono ?_;rintro e w0 ⟨rfl,rfl⟩))
  have hG:bmG l a true n=true:=by unfold bmG;rw [Bool.true_or]
  have HG:=hid hG
  clear hG
  refine Pl.cutW (fun W=>RunB w (w1.heap.size+1) l a (bmG l a true n) f W) (by rw [HG.out];exact runB_mk hb1) ?_
  rintro W hK
  have HK:=hid hK
  clear hK
  generalize hB:w1.heap.size+1=B at *
  clear hb1 k1 f1 z1 z0
  have tz:=HK.out.t.z
  obtain ⟨_,t0,t1,t2,t3,_⟩:=HK.out.t
  have ew:IntKind.i64.wrap (f+(l * 64+a+n) / 640)=f+(l * 64+a+n) / 640:=by rw [IntKind.wrap_i64];omega
  obtain ⟨_,r0,r1,r2,r3,_⟩:=HK.out.r
  have tf:=HK.out.t.f
  have rz:=HK.out.r.z
  have rf:=HK.out.r.f
  go_region_with ((go_at_call 143;refine (Bm.often_any 640 _ B _ (by omega) (by omega) (by first | exact HK.out.q | exact HK.out.drew.q) (by first | exact HK.out.z | exact HK.out.drew.z)).mono ?_;rintro e w0 ⟨rfl,rfl⟩))
  all_goals go_wp2
  all_goals
   have hF:=HK.out.fin ((l * 64+a+n) % 640 / 64) ((l * 64+a+n) % 64) (f+(l * 64+a+n) / 640)
   refine Pl.cutB (fun Y=>Below w.heap.size w Y/\Y.rangeAt (w.heap.size+1) 0 [.int .i64 (bmL l a n),.int .i64 (bmA l a n),.bool (bmG l a true n),.int .i64 (bmF l a f n)]) hF ?_
   rintro Y ⟨hY,hR⟩
   have hl:=load_beam Y _ _ _ _ _ hR
   refine bodyPost_ret (v:=.tuple #[.agg #[.int .i64 (bmL l a n),.int .i64 (bmA l a n),.bool (bmG l a true n),.int .i64 (bmF l a f n)],.int .i64 0]) ?_ rfl ⟨rfl,hY⟩
   simp only [results,Tryz.results56]
   simp
   show (Result.andThen (Sem.run Tryz.prog (loadVar 38 ⟨w.heap.size+1,0,none⟩) Y) _)=_
   rw [hl]
   rfl
theorem Bm.run_bad (l a f n:Int) (g:Bool) (w:World) (h:¬ BOk l a f \/ (BOk l a f /\ ¬ (0<=n/\n<=20000))) :
 Calls Tryz.prog 56 #[.agg #[.int .i64 l,.int .i64 a,.bool g,.int .i64 f],.int .i64 n] w fun e w'=>e = .returned (.tuple #[.agg #[.int .i64 0,.int .i64 0,.bool false,.int .i64 0],.int .i64 3])/\Below w.heap.size w w':=by
 rcases h with h | ⟨h,hn⟩
 ·have H:=hid h
  clear h
  go_enter Tryz.func56,Tryz.ntmps56
  go_wp2_with (go_at_call 94;refine (Bm.check_no l a f _ _ H.out).mono ?_;rintro e w1 ⟨rfl,hb1⟩;obtain ⟨k1,f1⟩:=bcell hb1;have z1:w.heap.size+1 < w1.heap.size:=Nat.lt_of_lt_of_le (by simp) hb1.size;have z0:w.heap.size < w1.heap.size:=Nat.lt_of_succ_lt z1)
  refine Pl.cutB (fun Y=>Below w.heap.size w Y/\Y.rangeAt (w.heap.size+1) 0 [.int .i64 0,.int .i64 0,.bool false,.int .i64 0]) (Bm.resB hb1) ?_
  rintro Y ⟨hY,hR⟩
  have hl:=load_beam Y _ _ _ _ _ hR
  refine bodyPost_ret (v:=.tuple #[.agg #[.int .i64 0,.int .i64 0,.bool false,.int .i64 0],.int .i64 3]) ?_ rfl ⟨rfl,hY⟩
  simp only [results,Tryz.results56]
  simp
  show (Result.andThen (Sem.run Tryz.prog (loadVar 38 ⟨w.heap.size+1,0,none⟩) Y) _)=_
  rw [hl]
  rfl
 ·have H:=hid h
  have hw:=wthn_no hn
  clear h hn
  go_enter Tryz.func56,Tryz.ntmps56
  go_wp2_with (first
   | (go_at_call 94;refine (Bm.check_yes l a f _ _ H.out).mono ?_;rintro e w1 ⟨rfl,hb1⟩;obtain ⟨k1,f1⟩:=bcell hb1;have z1:w.heap.size+1 < w1.heap.size:=Nat.lt_of_lt_of_le (by simp) hb1.size;have z0:w.heap.size < w1.heap.size:=Nat.lt_of_succ_lt z1)
   | (go_at_call 95;refine (Bm.within_any _ _ _).mono ?_;rintro e w0 ⟨rfl,rfl⟩))
  refine Pl.cutB (fun Y=>Below w.heap.size w Y/\Y.rangeAt (w.heap.size+1) 0 [.int .i64 0,.int .i64 0,.bool false,.int .i64 0]) (Bm.resB hb1) ?_
  rintro Y ⟨hY,hR⟩
  have hl:=load_beam Y _ _ _ _ _ hR
  refine bodyPost_ret (v:=.tuple #[.agg #[.int .i64 0,.int .i64 0,.bool false,.int .i64 0],.int .i64 3]) ?_ rfl ⟨rfl,hY⟩
  simp only [results,Tryz.results56]
  simp
  show (Result.andThen (Sem.run Tryz.prog (loadVar 38 ⟨w.heap.size+1,0,none⟩) Y) _)=_
  rw [hl]
  rfl
section
variable {F : Fx} {W : World} {M M' : Mach} {tk : Tk}
theorem Lk.run1 (b:Bem) (w:World) (h:BOr b.l b.a b.f):Calls Tryz.prog 56 #[.agg #[.int .i64 b.l,.int .i64 b.a,.bool b.g,.int .i64 b.f],.int .i64 1] w fun e w'=>∃ x,e = .returned (.tuple #[.agg #[.int .i64 b.one.l,.int .i64 b.one.a,.bool b.one.g,.int .i64 b.one.f],.int .i64 x])/\Below w.heap.size w w':=by
 unfold Bem.one
 by_cases hk:bok b.l b.a b.f=true
 ·rw [if_pos hk]
  refine (Bm.run_any b.l b.a b.f 1 b.g w ((bok_iff _ _ _).1 hk) ⟨by decide,by decide⟩).mono ?_
  rintro e w1 ⟨rfl,hb⟩
  exact ⟨_,rfl,hb⟩
 ·rw [if_neg hk]
  refine (Bm.run_bad b.l b.a b.f 1 b.g w (Or.inl (fun x=>hk ((bok_iff _ _ _).2 x)))).mono ?_
  rintro e w1 ⟨rfl,hb⟩
  exact ⟨_,rfl,hb⟩
def GW (F:Fx) (W:World) (M:Mach) (tk:Tk) (Y:World):Prop:=Bd F Y M tk/\Bt F W Y
theorem Lk.goOn (h:Bd F W M tk) (hc:M.clock < 200000):Calls Tryz.prog 27 #[pt F.g 0] W fun e w'=>e = .returned (.tuple #[])/\Bd F w' M.goOn tk/\Bt F W w':=by
 have c0:=h.at 41 (.int .u16 M.t.r) rfl
 have c1:=h.at 42 (.int .u16 M.t.c) rfl
 have c2:=h.at 43 (.bool M.t.on) rfl
 have c3:=h.at 44 (.bool M.t.g) rfl
 have ff:=h.bx.f
 have hg:=h.bx.z
 have hf:=h.fit
 have hff:=goOn_fit hf hc
 have HFF:=hid hff
 have HF:=hid hf
 have H:=hid h
 have HC:=hid hc
 have hcl:=hf.clock
 obtain ⟨T1,hT1⟩:∃ T1:TM,T1=⟨M.t.r,tkC M.t.r M.t.c M.t.on,M.t.on,tkG M.t.c M.t.on M.t.g⟩:=⟨_,rfl⟩
 have HT1:=hid hT1
 clear h hf hff hc hT1
 go_enter Tryz.func27,Tryz.ntmps27
 go_upto_region 1 with (go_at_call 54;refine (Tm.tick_any _ _ _ _ _ HF.out.tc).mono ?_;rintro e w1 ⟨rfl,hb1⟩;obtain ⟨k1,f1⟩:=bcell hb1;have z2:F.g < w1.heap.size:=lt_old hg hb1 (by simp))
 refine Pl.cutW (GW F W { M with t:=T1 } tk) ⟨by rw [HT1.out];exact (H.out.kept hb1).puts (M':={ M with t:=⟨M.t.r,tkC M.t.r M.t.c M.t.on,M.t.on,tkG M.t.c M.t.on M.t.g⟩ }) (tk':=tk) 41 [.int .u16 M.t.r,.int .u16 (tkC M.t.r M.t.c M.t.on),.bool M.t.on,.bool (tkG M.t.c M.t.on M.t.g)] (by simp) rfl ⟨rfl,rfl,rfl,rfl,rfl⟩ { HF.out with main:=HF.out.main,tr:=HF.out.tr,tc:=tk_bd HF.out.tr HF.out.tc },Bt.sets H.out.nd [.int .u16 M.t.r,.int .u16 (tkC M.t.r M.t.c M.t.on),.bool M.t.on,.bool (tkG M.t.c M.t.on M.t.g)] 41 _ (Bt.kept (Bt.refl F W) H.out.big hb1)⟩ ?_
 intro Y hY
 have HY:=hid hY.1
 have HYT:=hid hY.2
 clear hY hb1 k1 f1 z2 c0 c1 c2 c3 ff hg
 obtain ⟨M1,hM1⟩:∃ M1:Mach,M1={ M with t:=T1 }:=⟨_,rfl⟩
 rw [<- hM1] at HY
 have HM1:=hid hM1
 have hs1:M1.s=M.s:=by rw [hM1]
 have hsf:M1.s.fit:=by rw [hs1];exact { HF.out.s with w:=HF.out.w }
 have HSF:=hid hsf
 clear hM1 hs1 hsf
 go_upto_region 2 with (first
  | (refine wpList_load_mid rfl 36 _ rfl F.g 45 rfl (sndL M1.s) _ HY.out.sndR Tryz.underlying36 rfl info_sound ?_)
  | (go_at_call 55;refine (samples_ok M1.s 1 _ HSF.out (by decide)).mono ?_;rintro e w2 ⟨v2,rfl,hs2,hb2⟩;have HB2:=hid hb2;have HS2:=hid (HY.out.kept hb2);clear hs2 hb2)
  | (refine wpList_store_mid rfl 36 _ _ rfl F.g 45 (sndL (M1.s.ticks 1)).toArray rfl rfl (Bx.there HS2.out.bx 45 16 (by rw [Fx.len];omega)) info_sound (all16 (M1.s.ticks 1)) ?_
     refine Pl.cutL (GW F W { M1 with s:=M1.s.ticks 1 } tk) ⟨HS2.out.puts (M':={ M1 with s:=M1.s.ticks 1 }) (tk':=tk) 45 (sndL (M1.s.ticks 1)) (by simp [sndL]) (F.putSnd M1 tk _) ⟨rfl,rfl,rfl,rfl,rfl⟩ { HS2.out.fit with main:=HS2.out.fit.main,s:=(Sd.ticks_fit HSF.out 1).took,w:=(Sd.ticks_fit HSF.out 1).w },Bt.sets HY.out.nd (sndL (M1.s.ticks 1)) 45 _ (Bt.kept HYT.out HY.out.big HB2.out)⟩ ?_
     intro Z hZ
     have HZ:=hid hZ.1
     have HZT:=hid hZ.2
     clear hZ))
 obtain ⟨M2,hM2⟩:∃ M2:Mach,M2={ M1 with s:=M1.s.ticks 1 }:=⟨_,rfl⟩
 rw [<- hM2] at HZ
 have HM2:=hid hM2
 have b0:=HZ.out.at 61 (.int .i64 M2.b.l) rfl
 have b1:=HZ.out.at 62 (.int .i64 M2.b.a) rfl
 have b2:=HZ.out.at 63 (.bool M2.b.g) rfl
 have b3:=HZ.out.at 64 (.int .i64 M2.b.f) rfl
 have ff:=HZ.out.bx.f
 have hg:=HZ.out.bx.z
 clear hM2 HY HYT HB2 HS2
 go_upto_region 3 with (go_at_call 56;refine (Lk.run1 M2.b _ HZ.out.fit.b).mono ?_;rintro e w3 ⟨x3,rfl,hb3⟩;obtain ⟨k3,f3⟩:=bcell hb3;have z3:F.g < w3.heap.size:=lt_old hg hb3 (by simp))
 refine Pl.cutW (GW F W { M2 with b:=M2.b.one } tk) ⟨(HZ.out.kept hb3).puts (M':={ M2 with b:=M2.b.one }) (tk':=tk) 61 [.int .i64 M2.b.one.l,.int .i64 M2.b.one.a,.bool M2.b.one.g,.int .i64 M2.b.one.f] (by simp) rfl ⟨rfl,rfl,rfl,rfl,rfl⟩ { HZ.out.fit with main:=HZ.out.fit.main,b:=Bem.one_ok HZ.out.fit.b },Bt.sets HZ.out.nd [.int .i64 M2.b.one.l,.int .i64 M2.b.one.a,.bool M2.b.one.g,.int .i64 M2.b.one.f] 61 _ (Bt.kept HZT.out HZ.out.big hb3)⟩ ?_
 intro V hV
 obtain ⟨M3,hM3⟩:∃ M3:Mach,M3={ M2 with b:=M2.b.one }:=⟨_,rfl⟩
 rw [<- hM3] at hV
 have HV:=hid hV.1
 have HVT:=hid hV.2
 have hE:M.goOn={ M3 with clock:=M3.clock+1 }:=by
  rw [hM3,HM2.out,HM1.out,HT1.out];rfl
 have HE:=hid hE
 have hcl3:0<=M3.clock/\M3.clock<=200000:=by rw [hM3,HM2.out,HM1.out];exact hcl
 have d0:=HV.out.at 72 (.int .i64 M3.clock) rfl
 have df:=HV.out.bx.f 72
 have dz:=HV.out.bx.z
 have hwr:IntKind.i64.wrap (M3.clock+1)=M3.clock+1:=by rw [IntKind.wrap_i64];omega
 clear hV hM3 hE hb3 k3 f3 z3 b0 b1 b2 b3 ff hg HZ HZT hcl
 go_wp2
 go_end0
 refine ⟨rfl,?_,Bt.set HV.out.nd HVT.out 72 _⟩
 rw [HE.out]
 exact HV.out.put 72 _ (by omega) rfl ⟨rfl,rfl,rfl,rfl,rfl⟩ (by rw [<- HE.out];exact HFF.out)
end
end Go.Proofs.YtbhpfkjfijdmaaaGreatDoor
