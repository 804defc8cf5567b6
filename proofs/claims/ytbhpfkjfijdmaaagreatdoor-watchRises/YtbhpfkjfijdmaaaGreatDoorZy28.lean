/-
  Parts of a proof, joined.
-/
import Derived.Test.YtbhpfkjfijdmaaaGreatDoorZy25
import Derived.Test.YtbhpfkjfijdmaaaGreatDoorZy26
import Derived.Test.YtbhpfkjfijdmaaaGreatDoorZy27
import Derived.Deep.RegionHeld3
import Derived.Laws.EntriesVeiled
namespace Go.Proofs.YtbhpfkjfijdmaaaGreatDoor
open Go.ChangeShapes Go.WideShapes Go.ChangeAt Go.RowKit
set_option linter.unusedVariables false
set_option maxRecDepth 100000
structure Inp where
 c:Int
 p:Int
 d:Int
structure Lin where
 f:Int
 l:Int
 px:Nat->Nat
def Pd.press (p:Pd) (x:Int):Pd:=⟨x,p.l,sel p.l x p.s⟩
def Mach.press (M:Mach) (x:Inp):Mach:=if x.p=0 then { M with p0:=M.p0.press x.d } else { M with p1:=M.p1.press x.d }
def Mach.pressed (M:Mach):List Inp->Mach
 | []=>M
 | x :: l=>if x.c<=M.clock then (M.press x).pressed l else M
def Mach.coming (M:Mach):List Inp->List Inp
 | []=>[]
 | x :: l=>if x.c<=M.clock then M.coming l else x :: l
def Mach.line (M:Mach):List Lin:=if M.b.a=0/\M.b.l < 8 then [⟨M.b.f,M.b.l,px M.video M.b.l.toNat⟩] else []
def Mach.sample (M:Mach):List UInt8:=if M.s.w=0 then sms M.s 1 else []
def Bst.stepMain (s:Bst):Bst :=
 if s.M.clock < s.M.mready then s else
  let y:=C.step mainMem s.M.main ⟨s.M,0,s.l⟩ (s.M.t.g || s.M.b.g)
  ⟨{ y.s.M with main:=y.c,mready:=y.s.M.clock+3 * y.n+y.s.n },y.s.n,y.s.l⟩
def Bst.stepAux (s:Bst):Bst :=
 if s.M.held=true \/ s.M.clock < s.M.aready then s else
  let y:=C.step auxMem s.M.aux s s.M.rung
  ⟨{ y.s.M with aux:=y.c,aready:=y.s.M.clock+5 * y.n },y.s.n,y.s.l⟩
def Bem.one (b:Bem):Bem:=if bok b.l b.a b.f then ⟨bmL b.l b.a 1,bmA b.l b.a 1,bmG b.l b.a b.g 1,bmF b.l b.a b.f 1⟩ else ⟨0,0,false,0⟩
def Mach.goOn (M:Mach):Mach:={ M with t:=⟨M.t.r,tkC M.t.r M.t.c M.t.on,M.t.on,tkG M.t.c M.t.on M.t.g⟩,s:=M.s.ticks 1,b:=M.b.one,clock:=M.clock+1 }
structure Cs where
 s:Bst
 co:List Inp
 ln:List Lin
 sm:List UInt8
def Cs.now (c:Cs):Cs :=
 let M:=c.s.M.pressed c.co
 ⟨(Bst.stepMain ⟨M,c.s.n,c.s.l⟩).stepAux,c.s.M.coming c.co,c.ln++M.line,c.sm++M.sample⟩
def Cs.clock (c:Cs):Cs:={ c.now with s:=⟨c.now.s.M.goOn,c.now.s.n,c.now.s.l⟩ }
def Cs.clocks (c:Cs):Nat->Cs
 | 0=>c
 | k+1=>(c.clocks k).clock
/-! ### what is in range stays in range -/
theorem Bem.one_ok {b:Bem} (h:BOr b.l b.a b.f):BOr b.one.l b.one.a b.one.f:=by
 unfold Bem.one
 split
 ·rename_i hb
  have hk:=(bok_iff _ _ _).1 hb
  have:=hk.l0;have:=hk.l1;have:=hk.a0;have:=hk.a1;have:=hk.f0;have:=hk.f1
  refine ⟨?_,?_,?_,?_,?_,?_⟩ <;> simp only [bmL,bmA,bmF] <;> omega
 ·exact ⟨by decide,by decide,by decide,by decide,by decide,by decide⟩
theorem tk_bd {r c:Int} {on:Bool} (hr:bd16 r) (hc:bd16 c):bd16 (tkC r c on):=by
 unfold tkC bd16 at *
 split
 ·split <;> omega
 ·omega
theorem goOn_fit {M:Mach} (h:M.fit) (hc:M.clock < 200000):M.goOn.fit where
 main:=h.main
 aux:=h.aux
 p0:=h.p0
 p1:=h.p1
 tr:=h.tr
 tc:=tk_bd h.tr h.tc
 s:=(Sd.ticks_fit (k:=1) (s:=M.s) { h.s with w:=h.w }).took
 fr:=h.fr
 «to»:=h.to
 m0:=h.m0
 m1:=h.m1
 mrom:=h.mrom
 arom:=h.arom
 ram:=h.ram
 own:=h.own
 video:=h.video
 w:=(Sd.ticks_fit (k:=1) (s:=M.s) { h.s with w:=h.w }).w
 b:=Bem.one_ok h.b
 clock:=by have:=h.clock;show 0<=M.clock+1/\M.clock+1<=200000;omega
 mready:=by have:=h.mready;show 0<=M.mready/\M.mready<=M.clock+1+20000;omega
 aready:=by have:=h.aready;show 0<=M.aready/\M.aready<=M.clock+1+20000;omega
theorem Pd.press_ok {p:Pd} (h:p.ok) {x:Int} (hx:0<=x/\x<=255):(p.press x).ok:=⟨hx,by
 show 0<=sel p.l x p.s/\sel p.l x p.s<=255
 unfold sel
 have:=h.s
 split <;> omega⟩
end Go.Proofs.YtbhpfkjfijdmaaaGreatDoor
namespace Go.Proofs.YtbhpfkjfijdmaaaGreatDoor
open Go.ChangeShapes Go.WideShapes Go.ChangeAt Go.RowKit
open Go
set_option linter.unusedVariables false
set_option maxRecDepth 100000
section
variable {P : Program} {ops : Array Oper} {Q : Exit -> Act -> World -> Prop} {md : Region.Mode} {S : World -> Prop} {st : Nat}
def wpAnyG (P:Program) (md:Region.Mode) (ops:Array Oper) (Q:Exit->Act->World->Prop) (S:World->Prop) (st:Nat):Nat->Array Bool->Act->World->Prop
 | 0,listed,a,w=>Region.ready md ops listed=[]/\Q .normal a w
 | fuel+1,listed,a,w =>
  (Region.ready md ops listed=[]->Q .normal a w) /\
  ∀ i ∈ Region.ready md ops listed,wpOp P ops Q i (fun a' w'=>((listed.setIfInBounds i true).getD st true=false->S w')/\wpAnyG P md ops Q S st fuel (listed.setIfInBounds i true) a' w') a w
theorem wpAny_of_G:∀ (fuel:Nat) (listed:Array Bool) (a:Act) (w:World),wpAnyG P md ops Q S st fuel listed a w->wpAny P md ops Q fuel listed a w
 | 0,_,_,_,h=>h
 | fuel+1,_,_,_,h=>⟨h.1,fun i hi=>wpOp_mono (fun a' w' h'=>wpAny_of_G fuel _ a' w' h'.2) (h.2 i hi)⟩
def waits (md:Region.Mode) (ops:Array Oper) (st i:Nat):Bool :=
 match ops[st]? with
 | some o=>o.after.toList.any fun e=>Region.binds md e && e.on == i
 | none=>false
theorem waits_spec {i:Nat} (h:waits md ops st i=true):∃ os,ops[st]? = some os /\ ∃ e ∈ os.after,Region.binds md e=true/\e.on=i:=by
 unfold waits at h
 cases hs:ops[st]? with
 | none=>rw [hs] at h;cases h
 | some os =>
  rw [hs] at h
  obtain ⟨e,he,h2⟩:=List.any_eq_true.1 h
  simp only [Bool.and_eq_true,beq_iff_eq] at h2
  exact ⟨os,rfl,e,by simpa using he,h2.1,h2.2⟩
theorem wpAnyG_first {i:Nat} {oi:Oper} {v:Value} (hi:ops[i]? = some oi) (hsel:∀ (j:Nat) (o:Oper) cs b,ops[j]? = some o->o.op ≠ .select cs b)
 (hQ:∀ c a w,Q (.panic c) (a.put oi.dst v) w->Q (.panic c) a w) (hw:waits md ops st i=true) (hsi:st ≠ i) :
 ∀ (fuel:Nat) (listed:Array Bool) (a:Act) (w:World),
  (∀ j oj,ops[j]? = some oj->j ≠ i->listed.getD j true=false->(∀ e ∈ oj.after,Region.binds md e=true->e.on ≠ i)->oi.apart ops oj=true) ->
  i ∈ Region.ready md ops listed->YieldsIf P ops S oi v a->S w->listed.getD st true=false ->
  wpAnyG P md ops Q S st fuel (listed.setIfInBounds i true) (a.put oi.dst v) w->wpAnyG P md ops Q S st (fuel+1) listed a w:=by
 intro fuel
 induction fuel with
 | zero =>
  intro listed a w _ hr hy hS _ H
  refine ⟨fun h=>(by rw [h] at hr;cases hr),fun j hj=>?_⟩
  by_cases hji:j=i
  ·subst hji;exact hy.wpOp hi hS ⟨fun _=>hS,H⟩
  ·have:=ready_mono hj hji
   rw [H.1] at this
   cases this
 | succ fuel ih =>
  intro listed a w hfree hr hy hS hun H
  refine ⟨fun h=>(by rw [h] at hr;cases hr),fun j hj=>?_⟩
  by_cases hji:j=i
  ·subst hji;exact hy.wpOp hi hS ⟨fun _=>hS,H⟩
  ·have h1:=H.2 j (ready_mono hj hji)
   obtain ⟨hjun,oj,hoj,hall⟩:=mem_ready.1 hj
   have hnot:∀ e ∈ oj.after,Region.binds md e=true->e.on ≠ i:=fun e he hb heq=>by
    have h1:=hall e he hb
    have h0:=(mem_ready.1 hr).1
    rw [heq] at h1
    rcases Nat.lt_or_ge i listed.size with h' | h'
    ·simp [h'] at h0 h1;rw [h0] at h1;cases h1
    ·simp [Array.getElem?_eq_none h'] at h1
   have hjs:j ≠ st:=fun e=>by
    obtain ⟨os,hos,e',he',hb',hon⟩:=waits_spec hw
    rw [e,hos] at hoj
    cases hoj
    exact hnot e' he' hb' hon
   have h2:=wpOp_putIf hoj (hfree j oj hoj hji hjun hnot) (fun cs b=>hsel i oi cs b hi) (fun cs b=>hsel j oj cs b hoj) hQ hy h1
   have hun2:(listed.setIfInBounds j true).getD st true=false:=by rw [getD_set_ne true hjs];exact hun
   have hun3:((listed.setIfInBounds i true).setIfInBounds j true).getD st true=false:=by rw [getD_set_ne true hjs,getD_set_ne true (Ne.symm hsi)];exact hun
   have hfree':∀ k ok,ops[k]? = some ok->k ≠ i->(listed.setIfInBounds j true).getD k true=false ->
    (∀ e ∈ ok.after,Region.binds md e=true->e.on ≠ i)->oi.apart ops ok=true:=fun k ok hk hki hun hno=>by
    refine hfree k ok hk hki ?_ hno
    by_cases hjk:j=k
    ·subst hjk;exact hjun
    ·rw [getD_set_ne true hjk] at hun;exact hun
   refine wpOp_mono (fun a' w' h3=>⟨fun _=>h3.2.1 hun3,ih (listed.setIfInBounds j true) a' w' hfree' (ready_mono hr (Ne.symm hji)) h3.1 (h3.2.1 hun3) hun2 ?_⟩) h2
   rw [Array.setIfInBounds_comm _ _ hji]
   exact h3.2.2
theorem wpAnyG_take {i:Nat} {oi:Oper} {v:Value} {fuel:Nat} {listed:Array Bool} {a:Act} {w:World} (hi:ops[i]? = some oi)
 (hs:Region.noSelect ops=true) (hf:Region.free md ops listed i=true) (hr:(Region.ready md ops listed).contains i=true) (hw:waits md ops st i=true) (hsi:st ≠ i) (hun:listed.getD st true=false)
 (hQ:∀ c a w,Q (.panic c) (a.put oi.dst v) w->Q (.panic c) a w) (hy:YieldsIf P ops S oi v a) (hS:S w)
 (h:wpAnyG P md ops Q S st fuel (listed.setIfInBounds i true) (a.put oi.dst v) w):wpAnyG P md ops Q S st (fuel+1) listed a w :=
 wpAnyG_first hi (Region.noSelect_spec hs) hQ hw hsi fuel listed a w (Region.free_spec hi hf) (by simpa using hr) hy hS hun h
theorem wpAnyG_firstP {i:Nat} {oi:Oper} {v:Value} (hi:ops[i]? = some oi) (hsel:∀ (j:Nat) (o:Oper) cs b,ops[j]? = some o->o.op ≠ .select cs b)
 (hQ:∀ c a w,Q (.panic c) (a.put oi.dst v) w->Q (.panic c) a w) (hsi:st ≠ i) :
 ∀ (fuel:Nat) (listed:Array Bool) (a:Act) (w:World),
  (∀ j oj,ops[j]? = some oj->j ≠ i->listed.getD j true=false->(∀ e ∈ oj.after,Region.binds md e=true->e.on ≠ i)->oi.apart ops oj=true) ->
  i ∈ Region.ready md ops listed->YieldsIf P ops (fun _=>True) oi v a->(listed.getD st true=false->S w) ->
  wpAnyG P md ops Q S st fuel (listed.setIfInBounds i true) (a.put oi.dst v) w->wpAnyG P md ops Q S st (fuel+1) listed a w:=by
 have down:∀ (l:Array Bool) (j:Nat),(l.setIfInBounds j true).getD st true=false->l.getD st true=false:=fun l j h=>by
  by_cases hj:j=st
  ·subst hj
   simp [Array.getD] at h
  ·rw [getD_set_ne true hj] at h;exact h
 intro fuel
 induction fuel with
 | zero =>
  intro listed a w _ hr hy hS H
  refine ⟨fun h=>(by rw [h] at hr;cases hr),fun j hj=>?_⟩
  by_cases hji:j=i
  ·subst hji;exact hy.wpOp hi trivial ⟨fun h=>hS (down _ _ h),H⟩
  ·have:=ready_mono hj hji
   rw [H.1] at this
   cases this
 | succ fuel ih =>
  intro listed a w hfree hr hy hS H
  refine ⟨fun h=>(by rw [h] at hr;cases hr),fun j hj=>?_⟩
  by_cases hji:j=i
  ·subst hji;exact hy.wpOp hi trivial ⟨fun h=>hS (down _ _ h),H⟩
  ·have h1:=H.2 j (ready_mono hj hji)
   obtain ⟨hjun,oj,hoj,hall⟩:=mem_ready.1 hj
   have hnot:∀ e ∈ oj.after,Region.binds md e=true->e.on ≠ i:=fun e he hb heq=>by
    have h1:=hall e he hb
    have h0:=(mem_ready.1 hr).1
    rw [heq] at h1
    rcases Nat.lt_or_ge i listed.size with h' | h'
    ·simp [h'] at h0 h1;rw [h0] at h1;cases h1
    ·simp [Array.getElem?_eq_none h'] at h1
   have h2:=wpOp_putIf hoj (hfree j oj hoj hji hjun hnot) (fun cs b=>hsel i oi cs b hi) (fun cs b=>hsel j oj cs b hoj) hQ hy h1
   have hfree':∀ k ok,ops[k]? = some ok->k ≠ i->(listed.setIfInBounds j true).getD k true=false ->
    (∀ e ∈ ok.after,Region.binds md e=true->e.on ≠ i)->oi.apart ops ok=true:=fun k ok hk hki hun hno=>by
    refine hfree k ok hk hki ?_ hno
    by_cases hjk:j=k
    ·subst hjk;exact hjun
    ·rw [getD_set_ne true hjk] at hun;exact hun
   refine wpOp_mono (fun a' w' h3=>?_) h2
   ·have up:(listed.setIfInBounds j true).getD st true=false->((listed.setIfInBounds i true).setIfInBounds j true).getD st true=false:=fun h=>by
     rw [Array.setIfInBounds_comm _ _ (Ne.symm hji),getD_set_ne true (Ne.symm hsi)];exact h
    refine ⟨fun h=>h3.2.1 (up h),ih (listed.setIfInBounds j true) a' w' hfree' (ready_mono hr (Ne.symm hji)) h3.1 (fun h=>h3.2.1 (up h)) ?_⟩
    rw [Array.setIfInBounds_comm _ _ hji]
    exact h3.2.2
theorem wpAnyG_pure {i:Nat} {oi:Oper} {v:Value} {fuel:Nat} {listed:Array Bool} {a:Act} {w:World} (hi:ops[i]? = some oi)
 (hs:Region.noSelect ops=true) (hf:Region.free md ops listed i=true) (hr:(Region.ready md ops listed).contains i=true) (hsi:st ≠ i)
 (hQ:∀ c a w,Q (.panic c) (a.put oi.dst v) w->Q (.panic c) a w) (hy:YieldsIf P ops (fun _=>True) oi v a) (hS:listed.getD st true=false->S w)
 (h:wpAnyG P md ops Q S st fuel (listed.setIfInBounds i true) (a.put oi.dst v) w):wpAnyG P md ops Q S st (fuel+1) listed a w :=
 wpAnyG_firstP hi (Region.noSelect_spec hs) hQ hsi fuel listed a w (Region.free_spec hi hf) (by simpa using hr) hy hS h
theorem wpAnyG_one {fuel:Nat} {listed:Array Bool} {a:Act} {w:World} {i:Nat} {o:Oper} (hr:Region.ready md ops listed=[i]) (ho:ops[i]? = some o)
 (h:∀ K':Act->World->Prop,Shut (∀ a w,((listed.setIfInBounds i true).getD st true=false->S w)->wpAnyG P md ops Q S st fuel (listed.setIfInBounds i true) a w->K' a w)->if Region.wanted o (yielded ops a.tmps)=true then Oper.wp P o a w K' Q else K' (a.put o.dst undef) w) :
 wpAnyG P md ops Q S st (fuel+1) listed a w :=
 And.intro (fun h0=>(by rw [hr] at h0;cases h0)) (fun j hj=>(by
  rw [hr] at hj
  rcases List.mem_cons.1 hj with rfl | hj
  ·exact wpOp_step ho (fun K' hK=>h K' (fun a w hS hW=>hK a w ⟨hS,hW⟩))
  ·cases hj))
theorem wpAnyG_done {listed:Array Bool} {a:Act} {w:World} (hr:Region.ready md ops listed=[]) (h:Q .normal a w) :
 ∀ fuel,wpAnyG P md ops Q S st fuel listed a w
 | 0=>⟨hr,h⟩
 | _+1=>⟨fun _=>h,by rw [hr];simp⟩
theorem wp_region_G {id:Nat} {a:Act} {w:World} (hm:P.follows .mixedOrders=true)
 (h:wpAnyG P .any ops Q S st ops.size (Array.replicate ops.size false) a w.drew):(Code.region id ops true).wp P Q a w :=
 wp_region_any hm (wpAny_of_G _ _ _ _ h)
end
end Go.Proofs.YtbhpfkjfijdmaaaGreatDoor
namespace Go.Proofs.YtbhpfkjfijdmaaaGreatDoor
open Go.ChangeShapes Go.WideShapes Go.ChangeAt Go.RowKit
open Go
set_option linter.unusedVariables false
set_option maxRecDepth 100000
section
variable {P : Program} {ops : Array Oper} {Q : Exit -> Act -> World -> Prop} {md : Region.Mode} {S : World -> Prop} {st : Nat}
theorem wpAnyG_first2 {i j0:Nat} {oi:Oper} {v:Value} (hi:ops[i]? = some oi) (hsel:∀ (j:Nat) (o:Oper) cs b,ops[j]? = some o->o.op ≠ .select cs b)
 (hQ:∀ c a w,Q (.panic c) (a.put oi.dst v) w->Q (.panic c) a w) (hw1:waits md ops st j0=true) (hw:waits md ops j0 i=true) (hsi:st ≠ i) (hj0:j0 ≠ i) :
 ∀ (fuel:Nat) (listed:Array Bool) (a:Act) (w:World),
  (∀ j oj,ops[j]? = some oj->j ≠ i->listed.getD j true=false->(∀ e ∈ oj.after,Region.binds md e=true->e.on ≠ i)->oi.apart ops oj=true) ->
  i ∈ Region.ready md ops listed->YieldsIf P ops S oi v a->S w->listed.getD st true=false->listed.getD j0 true=false ->
  wpAnyG P md ops Q S st fuel (listed.setIfInBounds i true) (a.put oi.dst v) w->wpAnyG P md ops Q S st (fuel+1) listed a w:=by
 intro fuel
 induction fuel with
 | zero =>
  intro listed a w _ hr hy hS _ _ H
  refine ⟨fun h=>(by rw [h] at hr;cases hr),fun j hj=>?_⟩
  by_cases hji:j=i
  ·subst hji;exact hy.wpOp hi hS ⟨fun _=>hS,H⟩
  ·have:=ready_mono hj hji
   rw [H.1] at this
   cases this
 | succ fuel ih =>
  intro listed a w hfree hr hy hS hun hun0 H
  refine ⟨fun h=>(by rw [h] at hr;cases hr),fun j hj=>?_⟩
  by_cases hji:j=i
  ·subst hji;exact hy.wpOp hi hS ⟨fun _=>hS,H⟩
  ·have h1:=H.2 j (ready_mono hj hji)
   obtain ⟨hjun,oj,hoj,hall⟩:=mem_ready.1 hj
   have hnot:∀ e ∈ oj.after,Region.binds md e=true->e.on ≠ i:=fun e he hb heq=>by
    have h1:=hall e he hb
    have h0:=(mem_ready.1 hr).1
    rw [heq] at h1
    rcases Nat.lt_or_ge i listed.size with h' | h'
    ·simp [h'] at h0 h1;rw [h0] at h1;cases h1
    ·simp [Array.getElem?_eq_none h'] at h1
   have hnot0:∀ e ∈ oj.after,Region.binds md e=true->e.on ≠ j0:=fun e he hb heq=>by
    have h1:=hall e he hb
    have h0:=hun0
    rw [heq] at h1
    rcases Nat.lt_or_ge j0 listed.size with h' | h'
    ·simp [h'] at h0 h1;rw [h0] at h1;cases h1
    ·simp [Array.getElem?_eq_none h'] at h1
   have hjj:j ≠ j0:=fun e=>by
    obtain ⟨os,hos,e',he',hb',hon⟩:=waits_spec hw
    rw [e,hos] at hoj
    cases hoj
    exact hnot e' he' hb' hon
   have hjs:j ≠ st:=fun e=>by
    obtain ⟨os,hos,e',he',hb',hon⟩:=waits_spec hw1
    rw [e,hos] at hoj
    cases hoj
    exact hnot0 e' he' hb' hon
   have h2:=wpOp_putIf hoj (hfree j oj hoj hji hjun hnot) (fun cs b=>hsel i oi cs b hi) (fun cs b=>hsel j oj cs b hoj) hQ hy h1
   have hun2:(listed.setIfInBounds j true).getD st true=false:=by rw [getD_set_ne true hjs];exact hun
   have hun4:(listed.setIfInBounds j true).getD j0 true=false:=by rw [getD_set_ne true hjj];exact hun0
   have hun3:((listed.setIfInBounds i true).setIfInBounds j true).getD st true=false:=by rw [getD_set_ne true hjs,getD_set_ne true (Ne.symm hsi)];exact hun
   have hfree':∀ k ok,ops[k]? = some ok->k ≠ i->(listed.setIfInBounds j true).getD k true=false ->
    (∀ e ∈ ok.after,Region.binds md e=true->e.on ≠ i)->oi.apart ops ok=true:=fun k ok hk hki hun hno=>by
    refine hfree k ok hk hki ?_ hno
    by_cases hjk:j=k
    ·subst hjk;exact hjun
    ·rw [getD_set_ne true hjk] at hun;exact hun
   refine wpOp_mono (fun a' w' h3=>⟨fun _=>h3.2.1 hun3,ih (listed.setIfInBounds j true) a' w' hfree' (ready_mono hr (Ne.symm hji)) h3.1 (h3.2.1 hun3) hun2 hun4 ?_⟩) h2
   rw [Array.setIfInBounds_comm _ _ hji]
   exact h3.2.2
theorem wpAnyG_take2 (j0:Nat) {i:Nat} {oi:Oper} {v:Value} {fuel:Nat} {listed:Array Bool} {a:Act} {w:World} (hi:ops[i]? = some oi)
 (hs:Region.noSelect ops=true) (hf:Region.free md ops listed i=true) (hr:(Region.ready md ops listed).contains i=true) (hw1:waits md ops st j0=true) (hw:waits md ops j0 i=true) (hsi:st ≠ i) (hj0:j0 ≠ i) (hun:listed.getD st true=false) (hun0:listed.getD j0 true=false)
 (hQ:∀ c a w,Q (.panic c) (a.put oi.dst v) w->Q (.panic c) a w) (hy:YieldsIf P ops S oi v a) (hS:S w)
 (h:wpAnyG P md ops Q S st fuel (listed.setIfInBounds i true) (a.put oi.dst v) w):wpAnyG P md ops Q S st (fuel+1) listed a w :=
 wpAnyG_first2 hi (Region.noSelect_spec hs) hQ hw1 hw hsi hj0 fuel listed a w (Region.free_spec hi hf) (by simpa using hr) hy hS hun hun0 h
end
theorem exec_load_mid {P:Program} {a:Act} {o:Oper} {w:World} (ty:TypeId) (x:Operand) (ho:o.op = .load ty x) (b off:Nat) (hx:a.eval x = .pointer (some ⟨b,off,none⟩)) (cs:List Value) (u:TypeDesc) (hc:w.rangeAt b off cs) (hu:P.underlying ty=some u) (hag:u.isRow=true) (hi:(P.info? ty).map (·.size)=some cs.length) :
 (execOp a.eval o).run P w = .ok (.value (.agg cs.toArray)) w:=by
 unfold execOp
 simp only [ho,hx,Sem.run_bind,run_loadAt_mid w b off ty cs u hc hu hag hi,Result.andThen_ok,Sem.run_pure]
def conL (F:Fx) (vco vln vsm:Value):List Value:=[pt F.g 0,vco,vln,vsm,.slice none 0 0,pt F.g 0]
structure CB (F : Fx) (N c : Nat) (vco vln vsm : Value) (w : World) : Prop where
 n:N<=c
 blk:w.heap[c]? = some (.cells (conL F vco vln vsm).toArray 90 (0,0))
section
variable {F : Fx} {N c : Nat} {vco vln vsm : Value} {w w1 : World} {s s' : Bst}
theorem CB.z (h:CB F N c vco vln vsm w):c < w.heap.size:=(Array.getElem?_eq_some_iff.1 h.blk).1
theorem CB.bx (h:CB F N c vco vln vsm w):Bx w c (conL F vco vln vsm):=⟨h.z,fun j v hj=>(Lib.cell_of_heap h.blk (0+j)).trans (by rw [Nat.zero_add,List.getElem?_toArray];exact hj),fun o=>Lib.frozen_of_heap h.blk o⟩
theorem CB.out (h:CB F N c vco vln vsm w):¬ Tw (BT N) w s c:=Tw.of (fun e=>Nat.not_lt.2 h.n e) h.blk (by decide)
theorem CB.same (h:CB F N c vco vln vsm w) (e:w1.heap[c]? = w.heap[c]?):CB F N c vco vln vsm w1:=⟨h.n,e.trans h.blk⟩
theorem CB.kept (h:CB F N c vco vln vsm w) (hb:Below w.heap.size w w1):CB F N c vco vln vsm w1:=h.same (hb.block c h.z)
structure NM (F : Fx) (N : Nat) (w : World) (s s' : Bst) (w1 : World) : Prop where
 i:BI F N w1 s'
 m:Mv F.B (Tw (BT N) w s) (Tw (BT N) w1 s') w w1
theorem NM.cb (h:NM F N w s s' w1) (hc:CB F N c vco vln vsm w):CB F N c vco vln vsm w1:=hc.same (h.m.block c hc.z hc.out)
theorem NM.trans {s2:Bst} {w2:World} (h:NM F N w s s' w1) (k:NM F N w1 s' s2 w2):NM F N w s s2 w2:=⟨k.i,h.m.trans k.m⟩
theorem BI.big (h:BI F N w s):F.B<=w.heap.size:=by obtain ⟨v,hB⟩:=h.bd;exact hB.big
theorem BI.kept (hF:Fb F N) (h:BI F N w s) (hb:Below w.heap.size w w1):BI F N w1 s:=h.keep hF hb.size (fun k hk=>hb.block k (hk.lt (fun j hj=>Nat.lt_of_lt_of_le hj h.N)))
theorem NM.refl (hF:Fb F N) (h:BI F N w s) (hb:Below w.heap.size w w1):NM F N w s s w1:=⟨h.kept hF hb,(Mv.of_below (T:=Tw (BT N) w s) h.big hb).weak (fun k hk=>hk.low hb)⟩
theorem NM.of (hF:Fb F N) (hI:BI F N w s) (hn:0<=s'.n) {v:Value} (hB:Bd F w1 s'.M ⟨s'.n,s'.l,v⟩) (ht:Bt F w w1):NM F N w s s' w1:=by
 obtain ⟨h1,h2⟩:=BE.out hF hI (⟨⟨v,hB⟩,ht.w⟩:BE F w w1 s') hn
 exact ⟨h1,h2⟩
theorem Bd.mainR {W:World} {M:Mach} {tk:Tk} (h:Bd F W M tk):W.rangeAt F.g 0 (cpuL M.main):=fun i v hi=>by
 refine h.at (0+i) v ?_
 have hl:=(List.getElem?_eq_some_iff.1 hi).1
 have hc:i=0 \/ i=1 \/ i=2 \/ i=3 \/ i=4 \/ i=5 \/ i=6 \/ i=7 \/ i=8 \/ i=9 \/ i=10 \/ i=11 \/ i=12 \/ i=13 \/ i=14:=by simp [cpuL] at hl;omega
 rcases hc with rfl | rfl | rfl | rfl | rfl | rfl | rfl | rfl | rfl | rfl | rfl | rfl | rfl | rfl | rfl <;> exact hi
theorem Bd.auxR {W:World} {M:Mach} {tk:Tk} (h:Bd F W M tk):W.rangeAt F.g 15 (cpuL M.aux):=fun i v hi=>by
 refine h.at (15+i) v ?_
 have hl:=(List.getElem?_eq_some_iff.1 hi).1
 have hc:i=0 \/ i=1 \/ i=2 \/ i=3 \/ i=4 \/ i=5 \/ i=6 \/ i=7 \/ i=8 \/ i=9 \/ i=10 \/ i=11 \/ i=12 \/ i=13 \/ i=14:=by simp [cpuL] at hl;omega
 rcases hc with rfl | rfl | rfl | rfl | rfl | rfl | rfl | rfl | rfl | rfl | rfl | rfl | rfl | rfl | rfl <;> exact hi
theorem cpu_one (c:C.Cpu):(cpuL c).toArray.all (·.oneCell')=true:=by simp [cpuL,Value.oneCell']
end
end Go.Proofs.YtbhpfkjfijdmaaaGreatDoor
