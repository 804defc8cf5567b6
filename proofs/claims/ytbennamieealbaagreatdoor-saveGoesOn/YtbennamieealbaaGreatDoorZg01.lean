/-
  Parts of a proof, joined.
-/
import Derived.Deep.RegionHeld3
import Derived.Test.YtbennamieealbaaGreatDoorZg00
import Derived.WalkKit
import Derived.ProofKit
import Derived.OpenShut
import Derived.WalkSpells
import Derived.Outline
import Derived.Laws.EntriesVeiled
import Derived.Test.YtbennamieealbaaGreatDoorChecked
import GoSem.PinnedTables
import GoSem.Claim
import GoSem.ClaimJoined
import GoSem.ClaimMapViews
import Derived.JoinedTies
import Derived.KernelRfl
import Derived.Below
import Derived.Deep.Strs
import Derived.Deep.QuietTactic
import Derived.BigQuiet
import Derived.Laws.StructEq
import Derived.Deep.MidRow
import Derived.Deep.Fields
import Derived.Lib.Builder
import Derived.Deep.RegionWith
set_option linter.unusedVariables false
set_option maxRecDepth 100000
namespace Go.Proofs.YtbennamieealbaaGreatDoor
open Go.ChangeShapes Go.WideShapes Go.ChangeAt Go.RowKit
open Go
section
variable {P : Program} {ops : Array Oper} {Q : Exit -> Act -> World -> Prop} {md : Region.Mode} {S : World -> Prop} {st : Nat}
def wpAnyG (P:Program) (md:Region.Mode) (ops:Array Oper) (Q:Exit->Act->World->Prop) (S:World->Prop) (st:Nat):Nat->Array Bool->Act->World->Prop
 | 0,listed,a,w=>Region.ready md ops listed=[]/\Q .normal a w
 | fuel+1,listed,a,w =>
  (Region.ready md ops listed=[]->Q .normal a w) /\
  ∀ i∈Region.ready md ops listed,wpOp P ops Q i (λa' w'=>((listed.setIfInBounds i true).getD st true=false->S w')/\wpAnyG P md ops Q S st fuel (listed.setIfInBounds i true) a' w') a w
theorem zef:∀ (fuel:Nat) (listed:Array Bool) (a:Act) (w:World),wpAnyG P md ops Q S st fuel listed a w->wpAny P md ops Q fuel listed a w
 | 0,_,_,_,h=>h
 | fuel+1,_,_,_,h=>⟨h.1,λi hi=>wpOp_mono (λa' w' h'=>zef fuel _ a' w' h'.2) (h.2 i hi)⟩
def waits (md:Region.Mode) (ops:Array Oper) (st i:Nat):Bool :=
 match ops[st]? with
 | some o=>o.after.toList.any λe=>Region.binds md e && e.on == i
 | none=>false
theorem zcE {i:Nat} (h:waits md ops st i=true):∃ os,ops[st]? = some os /\ ∃ e∈os.after,Region.binds md e=true/\e.on=i:=by
 unfold waits at h
 cases hs:ops[st]? with
 | none=>rw [hs] at h;cases h
 | some os =>
  rw [hs] at h
  obtain ⟨e,he,h2⟩:=List.any_eq_true.1 h
  simp only [Bool.and_eq_true,beq_iff_eq] at h2
  exact ⟨os,rfl,e,by simpa using he,h2.1,h2.2⟩
theorem zfy {i:Nat} {oi:Oper} {v:Value} (hi:ops[i]? = some oi) (hsel:∀ (j:Nat) (o:Oper) cs b,ops[j]? = some o->o.op ≠ .select cs b)
 (hQ:∀ c a w,Q (.panic c) (a.put oi.dst v) w->Q (.panic c) a w) (hw:waits md ops st i=true) (hsi:st≠i) :
 ∀ (fuel:Nat) (listed:Array Bool) (a:Act) (w:World),
  (∀ j oj,ops[j]? = some oj->j≠i->listed.getD j true=false->(∀ e∈oj.after,Region.binds md e=true->e.on≠i)->oi.apart ops oj=true) ->
  i∈Region.ready md ops listed->YieldsIf P ops S oi v a->S w->listed.getD st true=false ->
  wpAnyG P md ops Q S st fuel (listed.setIfInBounds i true) (a.put oi.dst v) w->wpAnyG P md ops Q S st (fuel+1) listed a w:=by
 intro fuel
 induction fuel with
 | zero =>
  intro listed a w _ hr hy hS _ H
  refine ⟨λh=>(by rw [h] at hr;cases hr),λj hj=>?_⟩
  by_cases hji:j=i
  ·subst hji;exact hy.wpOp hi hS ⟨λ_=>hS,H⟩
  ·have:=ready_mono hj hji
   rw [H.1] at this
   cases this
 | succ fuel ih =>
  intro listed a w hfree hr hy hS hun H
  refine ⟨λh=>(by rw [h] at hr;cases hr),λj hj=>?_⟩
  by_cases hji:j=i
  ·subst hji;exact hy.wpOp hi hS ⟨λ_=>hS,H⟩
  ·have h1:=H.2 j (ready_mono hj hji)
   obtain ⟨hjun,oj,hoj,hall⟩:=mem_ready.1 hj
   have hnot:∀ e∈oj.after,Region.binds md e=true->e.on≠i:=λe he hb heq=>by
    have h1:=hall e he hb
    have h0:=(mem_ready.1 hr).1
    rw [heq] at h1
    rcases Nat.lt_or_ge i listed.size with h'|h'
    ·simp [h'] at h0 h1;rw [h0] at h1;cases h1
    ·simp [Array.getElem?_eq_none h'] at h1
   have hjs:j≠st:=λe=>by
    obtain ⟨os,hos,e',he',hb',hon⟩:=zcE hw
    rw [e,hos] at hoj
    cases hoj
    exact hnot e' he' hb' hon
   have h2:=wpOp_putIf hoj (hfree j oj hoj hji hjun hnot) (λcs b=>hsel i oi cs b hi) (λcs b=>hsel j oj cs b hoj) hQ hy h1
   have hun2:(listed.setIfInBounds j true).getD st true=false:=by rw [getD_set_ne true hjs];exact hun
   have hun3:((listed.setIfInBounds i true).setIfInBounds j true).getD st true=false:=by rw [getD_set_ne true hjs,getD_set_ne true (Ne.symm hsi)];exact hun
   have hfree':∀ k ok,ops[k]? = some ok->k≠i->(listed.setIfInBounds j true).getD k true=false ->
    (∀ e∈ok.after,Region.binds md e=true->e.on≠i)->oi.apart ops ok=true:=λk ok hk hki hun hno=>by
    refine hfree k ok hk hki ?_ hno
    by_cases hjk:j=k
    ·subst hjk;exact hjun
    ·rw [getD_set_ne true hjk] at hun;exact hun
   refine wpOp_mono (λa' w' h3=>⟨λ_=>h3.2.1 hun3,ih (listed.setIfInBounds j true) a' w' hfree' (ready_mono hr (Ne.symm hji)) h3.1 (h3.2.1 hun3) hun2 ?_⟩) h2
   rw [Array.setIfInBounds_comm _ _ hji]
   exact h3.2.2
theorem zaf {i:Nat} {oi:Oper} {v:Value} {fuel:Nat} {listed:Array Bool} {a:Act} {w:World} (hi:ops[i]? = some oi)
 (hs:Region.noSelect ops=true) (hf:Region.free md ops listed i=true) (hr:(Region.ready md ops listed).contains i=true) (hw:waits md ops st i=true) (hsi:st≠i) (hun:listed.getD st true=false)
 (hQ:∀ c a w,Q (.panic c) (a.put oi.dst v) w->Q (.panic c) a w) (hy:YieldsIf P ops S oi v a) (hS:S w)
 (h:wpAnyG P md ops Q S st fuel (listed.setIfInBounds i true) (a.put oi.dst v) w):wpAnyG P md ops Q S st (fuel+1) listed a w :=
 zfy hi (Region.noSelect_spec hs) hQ hw hsi fuel listed a w (Region.free_spec hi hf) (by simpa using hr) hy hS hun h
theorem zeX {i:Nat} {oi:Oper} {v:Value} (hi:ops[i]? = some oi) (hsel:∀ (j:Nat) (o:Oper) cs b,ops[j]? = some o->o.op ≠ .select cs b)
 (hQ:∀ c a w,Q (.panic c) (a.put oi.dst v) w->Q (.panic c) a w) (hsi:st≠i) :
 ∀ (fuel:Nat) (listed:Array Bool) (a:Act) (w:World),
  (∀ j oj,ops[j]? = some oj->j≠i->listed.getD j true=false->(∀ e∈oj.after,Region.binds md e=true->e.on≠i)->oi.apart ops oj=true) ->
  i∈Region.ready md ops listed->YieldsIf P ops (λ_=>True) oi v a->(listed.getD st true=false->S w) ->
  wpAnyG P md ops Q S st fuel (listed.setIfInBounds i true) (a.put oi.dst v) w->wpAnyG P md ops Q S st (fuel+1) listed a w:=by
 have down:∀ (l:Array Bool) (j:Nat),(l.setIfInBounds j true).getD st true=false->l.getD st true=false:=λl j h=>by
  by_cases hj:j=st
  ·subst hj
   simp [Array.getD] at h
  ·rw [getD_set_ne true hj] at h;exact h
 intro fuel
 induction fuel with
 | zero =>
  intro listed a w _ hr hy hS H
  refine ⟨λh=>(by rw [h] at hr;cases hr),λj hj=>?_⟩
  by_cases hji:j=i
  ·subst hji;exact hy.wpOp hi trivial ⟨λh=>hS (down _ _ h),H⟩
  ·have:=ready_mono hj hji
   rw [H.1] at this
   cases this
 | succ fuel ih =>
  intro listed a w hfree hr hy hS H
  refine ⟨λh=>(by rw [h] at hr;cases hr),λj hj=>?_⟩
  by_cases hji:j=i
  ·subst hji;exact hy.wpOp hi trivial ⟨λh=>hS (down _ _ h),H⟩
  ·have h1:=H.2 j (ready_mono hj hji)
   obtain ⟨hjun,oj,hoj,hall⟩:=mem_ready.1 hj
   have hnot:∀ e∈oj.after,Region.binds md e=true->e.on≠i:=λe he hb heq=>by
    have h1:=hall e he hb
    have h0:=(mem_ready.1 hr).1
    rw [heq] at h1
    rcases Nat.lt_or_ge i listed.size with h'|h'
    ·simp [h'] at h0 h1;rw [h0] at h1;cases h1
    ·simp [Array.getElem?_eq_none h'] at h1
   have h2:=wpOp_putIf hoj (hfree j oj hoj hji hjun hnot) (λcs b=>hsel i oi cs b hi) (λcs b=>hsel j oj cs b hoj) hQ hy h1
   have hfree':∀ k ok,ops[k]? = some ok->k≠i->(listed.setIfInBounds j true).getD k true=false ->
    (∀ e∈ok.after,Region.binds md e=true->e.on≠i)->oi.apart ops ok=true:=λk ok hk hki hun hno=>by
    refine hfree k ok hk hki ?_ hno
    by_cases hjk:j=k
    ·subst hjk;exact hjun
    ·rw [getD_set_ne true hjk] at hun;exact hun
   refine wpOp_mono (λa' w' h3=>?_) h2
   ·have up:(listed.setIfInBounds j true).getD st true=false->((listed.setIfInBounds i true).setIfInBounds j true).getD st true=false:=λh=>by
     rw [Array.setIfInBounds_comm _ _ (Ne.symm hji),getD_set_ne true (Ne.symm hsi)];exact h
    refine ⟨λh=>h3.2.1 (up h),ih (listed.setIfInBounds j true) a' w' hfree' (ready_mono hr (Ne.symm hji)) h3.1 (λh=>h3.2.1 (up h)) ?_⟩
    rw [Array.setIfInBounds_comm _ _ hji]
    exact h3.2.2
theorem zaR {i:Nat} {oi:Oper} {v:Value} {fuel:Nat} {listed:Array Bool} {a:Act} {w:World} (hi:ops[i]? = some oi)
 (hs:Region.noSelect ops=true) (hf:Region.free md ops listed i=true) (hr:(Region.ready md ops listed).contains i=true) (hsi:st≠i)
 (hQ:∀ c a w,Q (.panic c) (a.put oi.dst v) w->Q (.panic c) a w) (hy:YieldsIf P ops (λ_=>True) oi v a) (hS:listed.getD st true=false->S w)
 (h:wpAnyG P md ops Q S st fuel (listed.setIfInBounds i true) (a.put oi.dst v) w):wpAnyG P md ops Q S st (fuel+1) listed a w :=
 zeX hi (Region.noSelect_spec hs) hQ hsi fuel listed a w (Region.free_spec hi hf) (by simpa using hr) hy hS h
theorem zaa {fuel:Nat} {listed:Array Bool} {a:Act} {w:World} {i:Nat} {o:Oper} (hr:Region.ready md ops listed=[i]) (ho:ops[i]? = some o)
 (h:∀ K':Act->World->Prop,Shut (∀ a w,((listed.setIfInBounds i true).getD st true=false->S w)->wpAnyG P md ops Q S st fuel (listed.setIfInBounds i true) a w->K' a w)->if Region.wanted o (yielded ops a.tmps)=true then Oper.wp P o a w K' Q else K' (a.put o.dst undef) w) :
 wpAnyG P md ops Q S st (fuel+1) listed a w :=
 And.intro (λh0=>(by rw [hr] at h0;cases h0)) (λj hj=>(by
  rw [hr] at hj
  rcases List.mem_cons.1 hj with rfl|hj
  ·exact wpOp_step ho (λK' hK=>h K' (λa w hS hW=>hK a w ⟨hS,hW⟩))
  ·cases hj))
theorem zab {listed:Array Bool} {a:Act} {w:World} (hr:Region.ready md ops listed=[]) (h:Q .normal a w) :
 ∀ fuel,wpAnyG P md ops Q S st fuel listed a w
 | 0=>⟨hr,h⟩
 | _+1=>⟨λ_=>h,by rw [hr];simp⟩
theorem zac {id:Nat} {a:Act} {w:World} (hm:P.follows .mixedOrders=true)
 (h:wpAnyG P .any ops Q S st ops.size (Array.replicate ops.size false) a w.drew):(Code.region id ops true).wp P Q a w :=
 wp_region_any hm (zef _ _ _ _ h)
end
end Go.Proofs.YtbennamieealbaaGreatDoor
namespace Go.Proofs.YtbennamieealbaaGreatDoor
open Go.ChangeShapes Go.WideShapes Go.ChangeAt Go.RowKit
open Go
section
variable {P : Program} {ops : Array Oper} {Q : Exit -> Act -> World -> Prop} {md : Region.Mode} {S : World -> Prop} {st : Nat}
theorem zeY {i j0:Nat} {oi:Oper} {v:Value} (hi:ops[i]? = some oi) (hsel:∀ (j:Nat) (o:Oper) cs b,ops[j]? = some o->o.op ≠ .select cs b)
 (hQ:∀ c a w,Q (.panic c) (a.put oi.dst v) w->Q (.panic c) a w) (hw1:waits md ops st j0=true) (hw:waits md ops j0 i=true) (hsi:st≠i) (hj0:j0≠i) :
 ∀ (fuel:Nat) (listed:Array Bool) (a:Act) (w:World),
  (∀ j oj,ops[j]? = some oj->j≠i->listed.getD j true=false->(∀ e∈oj.after,Region.binds md e=true->e.on≠i)->oi.apart ops oj=true) ->
  i∈Region.ready md ops listed->YieldsIf P ops S oi v a->S w->listed.getD st true=false->listed.getD j0 true=false ->
  wpAnyG P md ops Q S st fuel (listed.setIfInBounds i true) (a.put oi.dst v) w->wpAnyG P md ops Q S st (fuel+1) listed a w:=by
 intro fuel
 induction fuel with
 | zero =>
  intro listed a w _ hr hy hS _ _ H
  refine ⟨λh=>(by rw [h] at hr;cases hr),λj hj=>?_⟩
  by_cases hji:j=i
  ·subst hji;exact hy.wpOp hi hS ⟨λ_=>hS,H⟩
  ·have:=ready_mono hj hji
   rw [H.1] at this
   cases this
 | succ fuel ih =>
  intro listed a w hfree hr hy hS hun hun0 H
  refine ⟨λh=>(by rw [h] at hr;cases hr),λj hj=>?_⟩
  by_cases hji:j=i
  ·subst hji;exact hy.wpOp hi hS ⟨λ_=>hS,H⟩
  ·have h1:=H.2 j (ready_mono hj hji)
   obtain ⟨hjun,oj,hoj,hall⟩:=mem_ready.1 hj
   have hnot:∀ e∈oj.after,Region.binds md e=true->e.on≠i:=λe he hb heq=>by
    have h1:=hall e he hb
    have h0:=(mem_ready.1 hr).1
    rw [heq] at h1
    rcases Nat.lt_or_ge i listed.size with h'|h'
    ·simp [h'] at h0 h1;rw [h0] at h1;cases h1
    ·simp [Array.getElem?_eq_none h'] at h1
   have hnot0:∀ e∈oj.after,Region.binds md e=true->e.on≠j0:=λe he hb heq=>by
    have h1:=hall e he hb
    have h0:=hun0
    rw [heq] at h1
    rcases Nat.lt_or_ge j0 listed.size with h'|h'
    ·simp [h'] at h0 h1;rw [h0] at h1;cases h1
    ·simp [Array.getElem?_eq_none h'] at h1
   have hjj:j≠j0:=λe=>by
    obtain ⟨os,hos,e',he',hb',hon⟩:=zcE hw
    rw [e,hos] at hoj
    cases hoj
    exact hnot e' he' hb' hon
   have hjs:j≠st:=λe=>by
    obtain ⟨os,hos,e',he',hb',hon⟩:=zcE hw1
    rw [e,hos] at hoj
    cases hoj
    exact hnot0 e' he' hb' hon
   have h2:=wpOp_putIf hoj (hfree j oj hoj hji hjun hnot) (λcs b=>hsel i oi cs b hi) (λcs b=>hsel j oj cs b hoj) hQ hy h1
   have hun2:(listed.setIfInBounds j true).getD st true=false:=by rw [getD_set_ne true hjs];exact hun
   have hun4:(listed.setIfInBounds j true).getD j0 true=false:=by rw [getD_set_ne true hjj];exact hun0
   have hun3:((listed.setIfInBounds i true).setIfInBounds j true).getD st true=false:=by rw [getD_set_ne true hjs,getD_set_ne true (Ne.symm hsi)];exact hun
   have hfree':∀ k ok,ops[k]? = some ok->k≠i->(listed.setIfInBounds j true).getD k true=false ->
    (∀ e∈ok.after,Region.binds md e=true->e.on≠i)->oi.apart ops ok=true:=λk ok hk hki hun hno=>by
    refine hfree k ok hk hki ?_ hno
    by_cases hjk:j=k
    ·subst hjk;exact hjun
    ·rw [getD_set_ne true hjk] at hun;exact hun
   refine wpOp_mono (λa' w' h3=>⟨λ_=>h3.2.1 hun3,ih (listed.setIfInBounds j true) a' w' hfree' (ready_mono hr (Ne.symm hji)) h3.1 (h3.2.1 hun3) hun2 hun4 ?_⟩) h2
   rw [Array.setIfInBounds_comm _ _ hji]
   exact h3.2.2
theorem zbq (j0:Nat) {i:Nat} {oi:Oper} {v:Value} {fuel:Nat} {listed:Array Bool} {a:Act} {w:World} (hi:ops[i]? = some oi)
 (hs:Region.noSelect ops=true) (hf:Region.free md ops listed i=true) (hr:(Region.ready md ops listed).contains i=true) (hw1:waits md ops st j0=true) (hw:waits md ops j0 i=true) (hsi:st≠i) (hj0:j0≠i) (hun:listed.getD st true=false) (hun0:listed.getD j0 true=false)
 (hQ:∀ c a w,Q (.panic c) (a.put oi.dst v) w->Q (.panic c) a w) (hy:YieldsIf P ops S oi v a) (hS:S w)
 (h:wpAnyG P md ops Q S st fuel (listed.setIfInBounds i true) (a.put oi.dst v) w):wpAnyG P md ops Q S st (fuel+1) listed a w :=
 zeY hi (Region.noSelect_spec hs) hQ hw1 hw hsi hj0 fuel listed a w (Region.free_spec hi hf) (by simpa using hr) hy hS hun hun0 h
end
theorem hid {p:Prop} (h:p):Hid p:=h
theorem ret_b {b b':Bool} (h:b=b'):Ending.returned (.bool b) = .returned (.bool b'):=by rw [h]
theorem stp {W a b:World} (h:Below W.heap.size W a) (hb:Below a.heap.size a b):Below W.heap.size W b:=h.trans (hb.mono h.size)
theorem stA {W a:World} (h:Below W.heap.size W a) (o:Obj):Below W.heap.size W (a.alloc o):=h.alloc h.size o
theorem st0 (W:World):Below W.heap.size W W:=Below.refl _ _
theorem bcell {W w1:World} (hb:Below W.heap.size W w1):(∀ b o,b<W.heap.size->w1.cell? ⟨b,o,none⟩=W.cell? ⟨b,o,none⟩)/\(∀ b o,b<W.heap.size->w1.frozen? ⟨b,o,none⟩=W.frozen? ⟨b,o,none⟩) :=
 ⟨λb o h=>hb.cell (p:=⟨b,o,none⟩) h,λb o h=>hb.frozen (p:=⟨b,o,none⟩) h⟩
theorem zaW (k:Nat) (hk:k<32) (h30:k≠30) (w:World) (hs:shapesAt w) :
 Calls Tryz.prog 209 #[.int .i64 k] w λe w'=>e = .returned (.tuple #[.agg #[.string (O.nameS k),.int .i64 (K.cyc k),.int .i64 (O.mask k)],.int .i64 0])/\Below w.heap.size w w':=by
 have hl:=hs.lt
 obtain ⟨c0,c1,c2⟩:=hs k hk
 have hn:(O.nameS k).toList.isEmpty=false:=(O.nameS_empty k hk).trans (by simpa using h30)
 clear hs
 go_enter Tryz.func209,Tryz.ntmps209
 go_wp2
 exact bodyPost_ret (v:=.tuple #[.agg #[.string (O.nameS k),.int .i64 (K.cyc k),.int .i64 (O.mask k)],.int .i64 0]) (by simp [results,Tryz.results209,go_sem]) rfl ⟨rfl,(Below.refl _ _).alloc (Nat.le_refl _) _⟩
theorem zkJ (op:Int) (h:O.isOp op=false) (w:World) (hs:shapesAt w) :
 Calls Tryz.prog 209 #[.int .i64 op] w λe w'=>e = .returned (.tuple #[.agg #[.string ⟨#[]⟩,.int .i64 0,.int .i64 0],.int .i64 5])/\Below w.heap.size w w':=by
 have hl:=hs.lt
 have h':¬ (0<=op/\op<=31/\op≠30):=λc=>by rw [(O.isOp_iff op).2 c] at h;cases h
 obtain ⟨c0,c1,c2⟩:=hs 30 (by omega)
 clear hs h
 have e30:O.nameS 30=⟨#[]⟩:=rfl
 rw [e30] at c0
 clear e30
 have hc:op<0 \/ 31<op \/ op=30:=by omega
 clear h'
 rcases hc with h|h|rfl
 ·go_enter Tryz.func209,Tryz.ntmps209
  go_wp2
  exact bodyPost_ret (v:=.tuple #[.agg #[.string ⟨#[]⟩,.int .i64 0,.int .i64 0],.int .i64 5]) (by simp [results,Tryz.results209,go_sem]) rfl ⟨rfl,(Below.refl _ _).alloc (Nat.le_refl _) _⟩
 ·have h2:¬ op<0:=by omega
  go_enter Tryz.func209,Tryz.ntmps209
  go_wp2
  exact bodyPost_ret (v:=.tuple #[.agg #[.string ⟨#[]⟩,.int .i64 0,.int .i64 0],.int .i64 5]) (by simp [results,Tryz.results209,go_sem]) rfl ⟨rfl,(Below.refl _ _).alloc (Nat.le_refl _) _⟩
 ·go_enter Tryz.func209,Tryz.ntmps209
  go_wp2
  exact bodyPost_ret (v:=.tuple #[.agg #[.string ⟨#[]⟩,.int .i64 0,.int .i64 0],.int .i64 5]) (by simp [results,Tryz.results209,go_sem]) rfl ⟨rfl,(Below.refl _ _).alloc (Nat.le_refl _) _⟩
def lenOf (h:Int):Int:=if h/8%2=1 then 2 else 1
theorem zaS (a b:Value) (k:Nat) (hk:k<32) (w:World) :
 Calls Tryz.prog 260 #[.agg #[a,b,.int .i64 (O.mask k)]] w λe w'=>e = .returned (.int .i64 (lenOf (O.mask k)))/\Below w.heap.size w w':=by
 rcases O.mask_or k hk with h|h|h|h|h|h|h|h|h <;> rw [h]
 all_goals
  clear h
  go_enter Tryz.func260,Tryz.ntmps260
  go_wp2
  go_ret
  exact ⟨rfl,(Below.refl _ _).alloc (Nat.le_refl _) _⟩
theorem zav (w:World) (cs:Array Value) (t:TypeId) (b:Nat) (h:b=w.heap.size) {k:Nat}:(w.alloc (.cells cs t)).cell? ⟨b,k,none⟩=cs[k]?:=by subst h;exact World.cell?_alloc_new ..
def sel (l:Bool) (a b:Int):Int:=if l then a else b
theorem zgb {P:Int->Prop} (l:Bool) {a b:Int} (ha:P a) (hb:P b):P (sel l a b):=by cases l <;> assumption
theorem Pl.new (w:World) (cs:Array Value) (t:TypeId) (b:Nat) (h:b=w.heap.size) {k:Nat}:(w.alloc (.cells cs t)).cell? ⟨b,k,none⟩=cs[k]?:=by subst h;exact World.cell?_alloc_new ..
theorem zaK (w:World) (cs:Array Value) (t:TypeId) (n b:Nat) (hb:b=w.heap.size) (h:cs.size=n):(w.alloc (.cells cs t)).there b 0 n:=λj hj=>by
 subst hb
 refine ⟨?_,Lib.frozen_of_heap (heap_alloc_new w _) _⟩
 rw [Pl.new _ _ _ _ rfl,Array.getElem?_eq_getElem (by omega)]
 rfl
theorem zbr {w w':World} {b n:Nat} (h:w.there b 0 n) (hb:Below w.heap.size w w') (hlt:b<w.heap.size):w'.there b 0 n:=λj hj=>by
 have:=h j hj
 rw [hb.cell (p:=⟨b,0+j,none⟩) hlt,hb.frozen (p:=⟨b,0+j,none⟩) hlt]
 exact this
theorem Pl.below {n:Nat} {a:World} {b:Nat} (hb:n<=b):∀ (vs:List Value) (o:Nat) (w:World),Below n a w->Below n a (w.setCells b o vs)
 | [],o,w,h=>h
 | v::vs,o,w,h=>Pl.below hb vs (o+1) _ (h.setCell hb v)
theorem Pl.fin {w w0 w1:World} {b:Nat} (L:List Value) (hth:w0.there b 0 L.length) (hb0:Below w.heap.size w w0) (hb1:Below w0.heap.size w0 w1) (hlt:b<w0.heap.size) (hw:w.heap.size<=b):Below w.heap.size w (w1.setCells b 0 L)/\(w1.setCells b 0 L).rangeAt b 0 L :=
 ⟨Pl.below hw L 0 w1 (stp hb0 hb1),World.rangeAt_setCells_same w1 b 0 L (zbr hth hb1 hlt)⟩
theorem Pl.cutW {P:Program} {code:Code} {Q:Exit->Act->World->Prop} {a:Act} {w:World} (K:World->Prop) (h:K w) (k:∀ w',K w'->code.wp P Q a w'):code.wp P Q a w:=k w h
theorem Pl.cutB {P:Program} {fn:Func} {R:Ending->World->Prop} {e:Exit} {a:Act} {w:World} (K:World->Prop) (h:K w) (k:∀ w',K w'->bodyPost P fn R e a w'):bodyPost P fn R e a w:=k w h
theorem Pl.spot {w:World} {a:Addr} {v:Value} (h:w.cell? a=some v):a.spot=none:=by
 unfold World.cell? at h
 split at h
 ·split at h
  ·cases h
  ·rename_i hs
   cases hh:a.spot with
   | none=>rfl
   | some x=>rw [hh] at hs;simp at hs
 ·cases h
def isAt (k:IntKind) (w:World) (v:Value) (l:List Int):Prop:=(∃ a cap,v = .slice a 0 cap/\l=[]) \/ ∃ g o cap,v = .slice (some ⟨g,o,none⟩) l.length cap/\g<w.heap.size /\ ∀ j x,l[j]? = some x->w.cell? ⟨g,o+j,none⟩=some (.int k x)
theorem isAt.kept {k:IntKind} {w w':World} {v:Value} {l:List Int} (h:isAt k w v l) (hb:Below w.heap.size w w'):isAt k w' v l:=by
 rcases h with h|⟨g,o,cap,h1,h3,h4⟩
 ·exact Or.inl h
 ·exact Or.inr ⟨g,o,cap,h1,Nat.lt_of_lt_of_le h3 hb.size,λj x hj=>(hb.cell (p:=⟨g,o+j,none⟩) h3).trans (h4 j x hj)⟩
theorem ret_v {a b:Value} (h:a=b):Ending.returned a = .returned b:=by rw [h]
theorem xA {α:Type} {l:List α} {i:Nat} {a:α}:l.toArray.setIfInBounds i a=(l.set i a).toArray:=List.setIfInBounds_toArray _ _ _
theorem xB {α:Type} {a b:α} {l:List α}:(a::l).set 0 b=b::l:=List.set_cons_zero
theorem xC {α:Type} {a b:α} {l:List α} {n:Nat}:(a::l).set (n+1) b=a::l.set n b:=List.set_cons_succ
section
variable {P : Program} {md : Region.Mode} {ops : Array Oper} {Q : Exit -> Act -> World -> Prop} {S : World -> Prop} {st : Nat}
theorem tqH (i:Nat) (oi:Oper) {v:Value} {fuel:Nat} {listed:Array Bool} {a:Act} {w:World} (hS:S w) (h:wpAnyH P md ops Q S fuel (listed.setIfInBounds i true) (a.put oi.dst v) w) (hi:ops[i]? = some oi:=by rfl)
 (hs:Region.noSelect ops=true:=by kernel_rfl) (hf:Region.free md ops listed i=true:=by kernel_rfl) (hr:(Region.ready md ops listed).contains i=true:=by kernel_rfl)
 (hQ:∀ c a w,Q (.panic c) (a.put oi.dst v) w->Q (.panic c) a w:=by exact λ_ _ _ h=>h) (hg:Region.wanted oi (yielded ops a.tmps)=true:=by rfl) (hy:∀ w',S w'->(execOp a.eval oi).run P w' = .ok (.value v) w':=by (intro w hSw;clear hSw;go_simp;try (with_reducible rfl))):wpAnyH P md ops Q S (fuel+1) listed a w :=
 wpAnyH_take hi hs hf hr hQ (Or.inl ⟨hg,hy⟩) hS h
theorem tqK (i:Nat) (oi:Oper) {v:Value} {fuel:Nat} {listed:Array Bool} {a:Act} {w:World} (hS:S w) (h:wpAnyH P md ops Q S fuel (listed.setIfInBounds i true) (a.put oi.dst v) w) (hi:ops[i]? = some oi:=by rfl)
 (hs:Region.noSelect ops=true:=by kernel_rfl) (hf:Region.free md ops listed i=true:=by kernel_rfl) (hr:(Region.ready md ops listed).contains i=true:=by kernel_rfl)
 (hQ:∀ c a w,Q (.panic c) (a.put oi.dst v) w->Q (.panic c) a w:=by exact λ_ _ _ h=>h) (hg:Region.wanted oi (yielded ops a.tmps)=true:=by rfl) (hy:∀ w',S w'->(execOp a.eval oi).run P w' = .ok (.value v) w':=by (intro w hSw;(try dsimp only at hSw);go_simp;try (with_reducible rfl))):wpAnyH P md ops Q S (fuel+1) listed a w :=
 wpAnyH_take hi hs hf hr hQ (Or.inl ⟨hg,hy⟩) hS h
theorem tqG (i:Nat) (oi:Oper) {v:Value} {fuel:Nat} {listed:Array Bool} {a:Act} {w:World} (hS:listed.getD st true=false->S w) (h:wpAnyG P md ops Q S st fuel (listed.setIfInBounds i true) (a.put oi.dst v) w) (hi:ops[i]? = some oi:=by rfl)
 (hs:Region.noSelect ops=true:=by kernel_rfl) (hf:Region.free md ops listed i=true:=by kernel_rfl) (hr:(Region.ready md ops listed).contains i=true:=by kernel_rfl) (hsi:st≠i:=by decide)
 (hQ:∀ c a w,Q (.panic c) (a.put oi.dst v) w->Q (.panic c) a w:=by exact λ_ _ _ h=>h) (hg:Region.wanted oi (yielded ops a.tmps)=true:=by rfl) (hy:∀ w',True->(execOp a.eval oi).run P w' = .ok (.value v) w':=by (intro w hSw;go_simp;try (with_reducible rfl))):wpAnyG P md ops Q S st (fuel+1) listed a w :=
 zaR hi hs hf hr hsi hQ (Or.inl ⟨hg,hy⟩) hS h
end
end Go.Proofs.YtbennamieealbaaGreatDoor
namespace Go.Proofs.YtbennamieealbaaGreatDoor.C
structure Cpu where
 R:List Int
 PC:Int
 Z:Bool
 N:Bool
 C:Bool
 V:Bool
 May:Bool
 Waits:Bool
deriving DecidableEq
structure Mem (σ : Type) where
 rd:σ->Int->Int × σ
 wr:σ->Int->Int->σ
 fuel:σ->Nat:=λ_=>4
structure St (σ : Type) where
 c:Cpu
 s:σ
 n:Int
def Cpu.r (c:Cpu) (i:Int):Int:=c.R.getD i.toNat 0
def Cpu.set (c:Cpu) (i:Int) (x:Int):Cpu:={ c with R:=c.R.set i.toNat x }
def Cpu.zero:Cpu:=⟨[0,0,0,0,0,0,0,0],0,false,false,false,false,false,false⟩
def sign (c:Cpu):Int:=(if c.Z then 1 else 0)+(if c.N then 2 else 0)+(if c.C then 4 else 0)+(if c.V then 8 else 0)+(if c.May then 16 else 0)
def Cpu.ok (c:Cpu):Prop:=c.R.length=8/\(∀ x∈c.R,0<=x/\x<=65535)/\0<=c.PC/\c.PC<=65535
section
variable {σ : Type} (m : Mem σ)
def Mem.rdw (s:σ) (a:Int):Int × σ:=((m.rd s a).1*256+(m.rd (m.rd s a).2 ((a+1)%65536)).1,(m.rd (m.rd s a).2 ((a+1)%65536)).2)
def Mem.wrw (s:σ) (a n:Int):σ:=m.wr (m.wr s a (n/256)) ((a+1)%65536) (n%256)
def push (x:St σ) (n:Int):St σ:=⟨x.c.set 7 ((x.c.r 7-2)%65536),m.wrw x.s ((x.c.r 7-2)%65536) n,x.n⟩
def popV (x:St σ):Int:=(m.rdw x.s (x.c.r 7)).1
def pop (x:St σ):St σ:=⟨x.c.set 7 ((x.c.r 7+2)%65536),(m.rdw x.s (x.c.r 7)).2,x.n⟩
def toPC (x:St σ) (a:Int):St σ:={ x with c:={ x.c with PC:=a } }
def leave (x:St σ) (at':Int):St σ :=
 let y:=push m (push m x x.c.PC) (sign (push m x x.c.PC).c)
 ⟨{ y.c with May:=false,Waits:=false,PC:=(m.rdw y.s at').1 },(m.rdw y.s at').2,y.n⟩
def comeBack (x:St σ):St σ :=
 let n:=popV m x
 let y:=pop m x
 let z:=pop m y
 ⟨{ z.c with PC:=popV m y,Z:=decide (n%2=1),N:=decide (n/2%2=1),C:=decide (n/4%2=1),V:=decide (n/8%2=1),May:=decide (n/16%2=1) },z.s,z.n⟩
def setR (x:St σ) (d v:Int):St σ:={ x with c:=x.c.set d v }
def signs (x:St σ) (n:Int) (c v:Bool):St σ:={ x with c:={ x.c with Z:=n == 0,N:=decide (32768<=n),C:=c,V:=v } }
def flN (k:Nat) (a b:Int):Int:=if k=7 \/ k=15 then M.addN a b else if k=8 \/ k=14 then M.subN a b else if k=9 then bits .and .u16 a b else if k=10 then bits .or .u16 a b else if k=11 then bits .xor .u16 a b else M.mulN a b
def flC (k:Nat) (a b:Int):Bool:=if k=7 \/ k=15 then M.addC a b else if k=8 \/ k=14 then M.subC a b else if k=9 \/ k=10 \/ k=11 then false else M.mulC a b
def flV (k:Nat) (a b:Int):Bool:=if k=7 \/ k=15 then M.addV a b else if k=8 \/ k=14 then M.subV a b else false
def reckon (x:St σ) (k:Nat) (a b:Int):St σ:=signs x (flN k a b) (flC k a b) (flV k a b)
def jump (x:St σ) (w:Int):St σ:=⟨{ x.c with PC:=w },x.s,x.n+1⟩
def both (x:St σ) (k:Nat) (d s:Int):St σ:=setR (reckon x k (x.c.r d) (x.c.r s)) d (flN k (x.c.r d) (x.c.r s))
def shift (x:St σ) (d n:Int) (o:Bool):St σ:=setR (signs x n o false) d n
def act (x:St σ) (k:Nat) (d s n w:Int):St σ :=
 match k with
 | 1=>setR x d (x.c.r s)
 | 2=>setR x d w
 | 3=>⟨x.c.set d (m.rdw x.s ((x.c.r s+n)%65536)).1,(m.rdw x.s ((x.c.r s+n)%65536)).2,x.n⟩
 | 4=>{ x with s:=m.wrw x.s ((x.c.r d+n)%65536) (x.c.r s) }
 | 5=>⟨x.c.set d (m.rd x.s ((x.c.r s+n)%65536)).1,(m.rd x.s ((x.c.r s+n)%65536)).2,x.n⟩
 | 6=>{ x with s:=m.wr x.s ((x.c.r d+n)%65536) (x.c.r s%256) }
 | 7=>both x 7 d s
 | 8=>both x 8 d s
 | 9=>both x 9 d s
 | 10=>both x 10 d s
 | 11=>both x 11 d s
 | 12=>shift x d (M.shlN (x.c.r d) n) (M.shlC (x.c.r d) n)
 | 13=>shift x d (M.shrN (x.c.r d) n) (M.shrC (x.c.r d) n)
 | 14=>reckon x 14 (x.c.r d) (x.c.r s)
 | 15=>setR (reckon x 15 (x.c.r d) (n%65536)) d (flN 15 (x.c.r d) (n%65536))
 | 16=>jump x w
 | 17=>if x.c.Z then jump x w else x
 | 18=>if x.c.N then jump x w else x
 | 19=>if x.c.C then jump x w else x
 | 20=>toPC (push m x x.c.PC) w
 | 21=>toPC (pop m x) (popV m x)
 | 22=>push m x (x.c.r s)
 | 23=>setR (pop m x) d (popV m x)
 | 24=>{ x with c:={ x.c with May:=true } }
 | 25=>{ x with c:={ x.c with May:=false } }
 | 26=>comeBack m x
 | 27=>{ x with c:={ x.c with Waits:=true } }
 | 28=>both x 28 d s
 | 29=>if x.c.Z then x else jump x w
 | 31=>leave m x 4
 | _=>x
def word1 (c:Cpu) (s:σ):Int:=(m.rdw s c.PC).1
def word2 (c:Cpu) (s:σ):Int:=if O.rLen (word1 m c s)=2 then (m.rdw (m.rdw s c.PC).2 ((c.PC+2)%65536)).1 else 0
def behind (c:Cpu) (s:σ):St σ :=
 ⟨{ c with PC:=(c.PC+2*O.rLen (word1 m c s))%65536 },if O.rLen (word1 m c s)=2 then (m.rdw (m.rdw s c.PC).2 ((c.PC+2)%65536)).2 else (m.rdw s c.PC).2,0⟩
def order (c:Cpu) (s:σ):St σ :=
 act m { behind m c s with n:=K.cyc (O.rk (word1 m c s)) } (O.rk (word1 m c s)) (O.rD (word1 m c s)) (O.rS (word1 m c s)) (O.rN (word1 m c s)) (O.rW (word1 m c s) (word2 m c s))
def step (c:Cpu) (s:σ) (rings:Bool):St σ :=
 if rings && c.May then { leave m ⟨c,s,0⟩ 2 with n:=6 }
 else if c.Waits then ⟨c,s,1⟩
 else order m c s
end
/-! ### what is in range stays in range -/
theorem Cpu.r_bd {c:Cpu} (h:c.ok) (i:Int):0<=c.r i/\c.r i<=65535:=by
 unfold Cpu.r
 by_cases hi:i.toNat<c.R.length
 ·rw [List.getD_eq_getElem?_getD,List.getElem?_eq_getElem hi]
  exact h.2.1 _ (List.getElem_mem hi)
 ·rw [List.getD_eq_getElem?_getD,List.getElem?_eq_none (by omega)];simp
theorem Cpu.ok_set {c:Cpu} (h:c.ok) (i x:Int) (h0:0<=x) (h1:x<=65535):(c.set i x).ok:=by
 refine ⟨by simp [Cpu.set,h.1],λy hy=>?_,h.2.2.1,h.2.2.2⟩
 rcases List.mem_or_eq_of_mem_set hy with hy|rfl
 ·exact h.2.1 y hy
 ·exact ⟨h0,h1⟩
theorem Cpu.r_set {c:Cpu} (h:c.ok) (i:Nat) (hi:i<8) (x:Int):(c.set i x).r i=x:=by
 unfold Cpu.r Cpu.set
 simp only [Int.toNat_natCast]
 rw [List.getD_eq_getElem?_getD,List.getElem?_set_self (by rw [h.1];exact hi)]
 rfl
theorem Cpu.ok_pc {c:Cpu} (h:c.ok) (x:Int) (h0:0<=x) (h1:x<=65535):Cpu.ok { c with PC:=x }:=⟨h.1,h.2.1,h0,h1⟩
theorem sign_bd (c:Cpu):0<=sign c/\sign c<=31:=by unfold sign;split <;> split <;> split <;> split <;> split <;> omega
end Go.Proofs.YtbennamieealbaaGreatDoor.C
namespace Go.Proofs.YtbennamieealbaaGreatDoor
open Go.ChangeShapes Go.WideShapes Go.ChangeAt Go.RowKit
theorem or_one:∀ s:Nat,s<256->bits .or .u8 (((s:Int)*2)%256) 1=(((s:Int)*2)%256)+1:=by decide +kernel
theorem zmL (s:Int) (h:0<=s/\s<=255):bits .or .u8 (s*2%256) 1=s*2%256+1:=by
 obtain ⟨k,rfl⟩:=Int.eq_ofNat_of_zero_le h.1
 exact or_one k (by omega)
theorem and_one:∀ s:Nat,s<256->bits .and .u8 (s:Int) 1=(s:Int)%2:=by decide +kernel
theorem zc2 (s:Int) (h:0<=s/\s<=255):bits .and .u8 s 1=s%2:=by
 obtain ⟨k,rfl⟩:=Int.eq_ofNat_of_zero_le h.1
 exact and_one k (by omega)
def odd (x:Int):Bool:=x%2 == 1
theorem zcd:(Tryz.prog.info? 28).map (·.size)=some 3:=by kernel_rfl
theorem zgM (W:World) (q:Nat) (d s:Int) (l:Bool) (h:W.rangeAt q 0 [.int .u8 d,.bool l,.int .u8 s]):(loadVar 28 ⟨q,0,none⟩).run Tryz.prog W = .ok (.agg #[.int .u8 d,.bool l,.int .u8 s]) W :=
 run_loadVar_mid W q 0 28 _ _ h Tryz.underlying28 rfl zcd
theorem zeg (d s:Int) (l:Bool) (w:World) :
 Calls Tryz.prog 190 #[.agg #[.int .u8 d,.bool l,.int .u8 s]] w λe w'=>e = .returned (.agg #[.int .u8 d,.bool l,.int .u8 (sel l d s)])/\Below w.heap.size w w':=by
 cases l
 all_goals
  go_enter Tryz.func190,Tryz.ntmps190
  go_wp2
  refine bodyPost_ret (v:=.agg _) (by simp [results,Tryz.results190,go_sem,sel]) rfl ⟨rfl,?_⟩
  exact stA (stA (st0 _) _) _
theorem zfz (d s x:Int) (l:Bool) (w:World) :
 Calls Tryz.prog 110 #[.agg #[.int .u8 d,.bool l,.int .u8 s],.int .u8 x] w λe w'=>e = .returned (.agg #[.int .u8 x,.bool l,.int .u8 (sel l x s)])/\Below w.heap.size w w':=by
 go_enter Tryz.func110,Tryz.ntmps110
 go_wp2_with (go_at_call 190;refine (zeg _ _ _ _).mono ?_;rintro e w1 ⟨rfl,hb1⟩;obtain ⟨k1,f1⟩:=bcell hb1;have z1:w.heap.size+1<w1.heap.size:=Nat.lt_of_lt_of_le (by simp) hb1.size)
 have hF:=Pl.fin [.int .u8 x,.bool l,.int .u8 (sel l x s)] (zaK _ _ _ 3 (w.heap.size+1) (by simp) rfl) (stA (stA (st0 w) _) _) hb1 (by simp) (by omega)
 exact bodyPost_ret (v:=.agg _) (by simp only [results,Tryz.results110];simp;exact zgM _ _ _ _ _ hF.2) rfl ⟨rfl,hF.1⟩
theorem zfA (d s x:Int) (l:Bool) (w:World) (hx:0<=x/\x<=255) :
 Calls Tryz.prog 217 #[.agg #[.int .u8 d,.bool l,.int .u8 s],.int .u8 x] w λe w'=>e = .returned (.agg #[.int .u8 d,.bool (odd x),.int .u8 (sel (odd x) d s)])/\Below w.heap.size w w':=by
 have ha:(bits .and .u8 x 1 == 1)=odd x:=by rw [zc2 x hx];rfl
 go_enter Tryz.func217,Tryz.ntmps217
 go_wp2_with (go_at_call 190;refine (zeg _ _ _ _).mono ?_;rintro e w1 ⟨rfl,hb1⟩;obtain ⟨k1,f1⟩:=bcell hb1;have z1:w.heap.size+1<w1.heap.size:=Nat.lt_of_lt_of_le (by simp) hb1.size)
 have hF:=Pl.fin [.int .u8 d,.bool (odd x),.int .u8 (sel (odd x) d s)] (zaK _ _ _ 3 (w.heap.size+1) (by simp) rfl) (stA (stA (st0 w) _) _) hb1 (by simp) (by omega)
 exact bodyPost_ret (v:=.agg _) (by simp only [results,Tryz.results217];simp;exact zgM _ _ _ _ _ hF.2) rfl ⟨rfl,hF.1⟩
theorem zgN (d s:Int) (l:Bool) (w:World) (hd:0<=d/\d<=255) (hs:0<=s/\s<=255) :
 Calls Tryz.prog 216 #[.agg #[.int .u8 d,.bool l,.int .u8 s]] w λe w'=>e = .returned (.tuple #[.int .u8 (sel l d s/128),.agg #[.int .u8 d,.bool l,.int .u8 (sel l s (s*2%256+1))]])/\Below w.heap.size w w':=by
 have ho:=zmL s hs
 cases l
 ·go_enter Tryz.func216,Tryz.ntmps216
  go_wp2
  go_region_held3 (λw'=>w'.cell? ⟨w.heap.size,0,none⟩=some (.int .u8 d)/\w'.cell? ⟨w.heap.size,1,none⟩=some (.bool false)/\w'.cell? ⟨w.heap.size,2,none⟩=some (.int .u8 (s*2%256+1)))
   ((go_keep;done))
   (fail)
  go_wp2
  refine bodyPost_ret (v:=.tuple #[_,.agg _]) (by simp [results,Tryz.results216,go_sem,sel]) rfl ⟨rfl,?_⟩
  exact (stA (stA (st0 _) _) _).drew
 ·go_enter Tryz.func216,Tryz.ntmps216
  go_wp2
  go_region_held3 (λw'=>w'.cell? ⟨w.heap.size,0,none⟩=some (.int .u8 d)/\w'.cell? ⟨w.heap.size,1,none⟩=some (.bool true)/\w'.cell? ⟨w.heap.size,2,none⟩=some (.int .u8 s))
   ((go_keep;done))
   (fail)
  go_wp2
  refine bodyPost_ret (v:=.tuple #[_,.agg _]) (by simp [results,Tryz.results216,go_sem,sel]) rfl ⟨rfl,?_⟩
  exact (stA (stA (st0 _) _) _).drew
def shN (d:Int) (k:Nat):Int:=(d*2 ^ k+(2 ^ k-1))%256
theorem zfB (b:Nat):∀ (vs:List Value) (o:Nat) (w:World),(w.setCells b o vs).heap.size=w.heap.size
 | [],o,w=>rfl
 | v::vs,o,w=>(zfB b vs (o+1) _).trans (by simp)
structure AllW (w : World) (n : Nat) (k : Nat) (wr : World) : Prop where
 low:Below w.heap.size w wr
 c:wr.rangeAt w.heap.size 0 [.int .u8 n,.bool false,.int .u8 (shN n k)]
 f:∀ o,wr.frozen? ⟨w.heap.size,o,none⟩=false
 th:wr.there (w.heap.size+1) 0 3
 lt:w.heap.size+1<wr.heap.size
theorem AllW.put {w w0 w1:World} {n k:Nat} (hl:Below w.heap.size w w0) (hb:Below w0.heap.size w0 w1) (h0:w0.there w.heap.size 0 3) (h1:w0.there (w.heap.size+1) 0 3) (hf:∀ o,w0.frozen? ⟨w.heap.size,o,none⟩=false) (hz:w.heap.size+1<w0.heap.size) :
 AllW w n k (w1.setCells w.heap.size 0 [.int .u8 n,.bool false,.int .u8 (shN n k)]):=by
 have hs:=hb.size
 have h:=Pl.fin [.int .u8 n,.bool false,.int .u8 (shN n k)] h0 hl hb (by omega) (Nat.le_refl _)
 have t1:=zbr h1 hb hz
 refine ⟨h.1,h.2,λo=>?_,λj hj=>?_,?_⟩
 ·rw [World.frozen?_setCells]
  exact (hb.frozen (p:=⟨w.heap.size,o,none⟩) (show w.heap.size<w0.heap.size by omega)).trans (hf o)
 ·rw [World.frozen?_setCells,World.cell?_setCells_out _ _ _ _ _ (λe=>absurd e (by simp))]
  exact t1 j hj
 ·have:=(zfB w.heap.size [.int .u8 n,.bool false,.int .u8 (shN n k)] 0 w1)
  omega
/-! ### the reference's pads -/
end Go.Proofs.YtbennamieealbaaGreatDoor
