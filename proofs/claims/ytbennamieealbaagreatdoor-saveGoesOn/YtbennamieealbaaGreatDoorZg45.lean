/-
  Parts of a proof, joined.
-/
import Derived.Deep.RegionHeld3
import Derived.Test.YtbennamieealbaaGreatDoorZg44
import Derived.Test.YtbennamieealbaaGreatDoorZg03
set_option linter.unusedVariables false
set_option maxRecDepth 100000
namespace Go.Proofs.YtbennamieealbaaGreatDoor
open Go.ChangeShapes Go.WideShapes Go.ChangeAt Go.RowKit
open Go
theorem zdH:∀ (l:List Bool) (i:Nat),l[i]? = some false->(l.set i true).count false+1=l.count false
 | [],i,h=>by simp at h
 | x::l,0,h=>by
  simp only [List.getElem?_cons_zero,Option.some.injEq] at h
  subst h
  simp
 | x::l,i+1,h=>by
  rw [List.getElem?_cons_succ] at h
  have:=zdH l i h
  rw [List.set_cons_succ,List.count_cons,List.count_cons]
  omega
theorem wpAnyI {P:Program} {ops:Array Oper} {Q:Exit->Act->World->Prop} {md:Region.Mode} (Inv:Array Bool->Act->World->Prop)
 (step:∀ (listed:Array Bool) (a:Act) (w:World) (i:Nat) (o:Oper),Inv listed a w->listed.size=ops.size->ops[i]? = some o->listed.getD i true=false->(∀ e∈o.after,Region.binds md e=true->listed.getD e.on false=true)->∀ K:Act->World->Prop,(∀ a' w',Inv (listed.setIfInBounds i true) a' w'->K a' w')->if Region.wanted o (yielded ops a.tmps)=true then Oper.wp P o a w K Q else K (a.put o.dst undef) w)
 (fin:∀ (listed:Array Bool) (a:Act) (w:World),Inv listed a w->listed.size=ops.size->Region.ready md ops listed=[]->Q .normal a w) :
 ∀ (fuel:Nat) (listed:Array Bool) (a:Act) (w:World),listed.size=ops.size->listed.toList.count false<=fuel->Inv listed a w->wpAny P md ops Q fuel listed a w:=by
 have hget:∀ (listed:Array Bool) (i:Nat),listed.getD i true=false->listed.toList[i]? = some false:=by
  intro listed i h
  rw [Array.getElem?_toList]
  cases hh:listed[i]? with
  | none=>rw [Array.getD_eq_getD_getElem?,hh] at h;cases h
  | some b=>rw [Array.getD_eq_getD_getElem?,hh] at h;exact congrArg some h
 intro fuel
 induction fuel with
 | zero =>
  intro listed a w hs hc hI
  have hr:Region.ready md ops listed=[]:=by
   cases hh:Region.ready md ops listed with
   | nil=>rfl
   | cons j r =>
    have hj:j∈Region.ready md ops listed:=by rw [hh];exact List.mem_cons_self
    have h1:=hget listed j (mem_ready.1 hj).1
    have h2:=zdH _ _ h1
    omega
  exact ⟨hr,fin listed a w hI hs hr⟩
 | succ fuel ih =>
  intro listed a w hs hc hI
  refine ⟨λhr=>fin listed a w hI hs hr,λi hi=>?_⟩
  obtain ⟨hun,o,ho,hall⟩:=mem_ready.1 hi
  refine wpOp_step ho (λK' hK=>step listed a w i o hI hs ho hun hall K' (λa' w' hI'=>hK a' w' (ih _ a' w' (by rw [Array.size_setIfInBounds];exact hs) ?_ hI')))
  have h2:=zdH _ _ (hget listed i hun)
  rw [Array.toList_setIfInBounds]
  omega
def sv (a:Act) (d:Nat):Value:=a.eval (.tmp d)
theorem zmJ {a:Act} {d:Nat} {v:Value} (h:d<a.tmps.size):sv (a.put (some d) v) d=v:=by
 unfold sv Act.eval Act.put
 simp [h]
theorem sv_ne {a:Act} {d k:Nat} {v:Value} (h:k≠d):sv (a.put (some d) v) k=sv a k:=by
 unfold sv
 exact Act.eval_put (λd' hd e=>by cases hd;cases e;exact h rfl)
theorem size_put (a:Act) (d:Option Nat) (v:Value):(a.put d v).tmps.size=a.tmps.size:=by
 unfold Act.put
 cases d <;> simp
structure Cat where
 sb:Nat
 tb:Nat
 a1:Option Addr
 c1:Nat
 a2:Option Addr
 c2:Nat
 a3:Option Addr
 c3:Nat
 b1:Option Addr
 d1:Nat
 b2:Option Addr
 d2:Nat
 b3:Option Addr
 d3:Nat
 ln:List Lin
 sm:List UInt8
 ws:List Wt
 ln':List Lin
 sm':List UInt8
 ws':List Wt
abbrev Cat.p1 (D:Cat):Value:=.slice D.a1 D.ln.length D.c1
abbrev Cat.p2 (D:Cat):Value:=.slice D.a2 D.sm.length D.c2
abbrev Cat.p3 (D:Cat):Value:=.slice D.a3 D.ws.length D.c3
abbrev Cat.q1 (D:Cat):Value:=.slice D.b1 D.ln'.length D.d1
abbrev Cat.q2 (D:Cat):Value:=.slice D.b2 D.sm'.length D.d2
abbrev Cat.q3 (D:Cat):Value:=.slice D.b3 D.ws'.length D.d3
structure Cat.at (D : Cat) (w : World) : Prop where
 s:Bx w D.sb [D.p1,D.p2,D.p3]
 t:Bx w D.tb [D.q1,D.q2,D.q3]
 x:ShAt w D.p1 D.p2 D.p3 D.ln D.sm D.ws
 y:ShAt w D.q1 D.q2 D.q3 D.ln' D.sm' D.ws'
 l1:D.ln.length+D.ln'.length<=100000
 l2:D.sm.length+D.sm'.length<=100000
 l3:D.ws.length+D.ws'.length<=100000
theorem Cat.at.kept {D:Cat} {w w1:World} (h:D.at w) (hb:Below w.heap.size w w1):D.at w1:=⟨h.s.kept hb,h.t.kept hb,h.x.kept hb,h.y.kept hb,h.l1,h.l2,h.l3⟩
def twoAt (w:World) (u x y:Value):Prop:=∃ b,u = .slice (some ⟨b,0,none⟩) 2 2/\w.cell? ⟨b,0,none⟩=some x/\w.cell? ⟨b,1,none⟩=some y/\b<w.heap.size
structure Own3 (B : Nat) (w : World) (p q r : Value) (ln : List Lin) (sm : List UInt8) (ws : List Wt) : Prop where
 ln:w.ownsRow B 62 18 p ln.length (lcs ln)
 sm:w.ownsRow B 5 1 q sm.length (bcs sm)
 ws:w.ownsRow B 66 3 r ws.length (wcs ws)
def Cat.phi (D:Cat) (B:Nat) (i:Nat) (u:Value) (w:World):Prop :=
 match i with
 | 0=>u=pt D.sb 0
 | 1=>u=D.p1
 | 2=>u=pt D.tb 0
 | 3=>u=D.q1
 | 4=>twoAt w u D.p1 D.q1
 | 5=>w.ownsRow B 62 18 u (D.ln.length+D.ln'.length) (lcs D.ln++lcs D.ln')
 | 6=>u=pt D.sb 1
 | 7=>u=D.p2
 | 8=>u=pt D.tb 1
 | 9=>u=D.q2
 | 10=>twoAt w u D.p2 D.q2
 | 11=>w.ownsRow B 5 1 u (D.sm.length+D.sm'.length) (bcs D.sm++bcs D.sm')
 | 12=>u=pt D.sb 2
 | 13=>u=D.p3
 | 14=>u=pt D.tb 2
 | 15=>u=D.q3
 | 16=>twoAt w u D.p3 D.q3
 | 17=>w.ownsRow B 66 3 u (D.ws.length+D.ws'.length) (wcs D.ws++wcs D.ws')
 | 18=>∃ p q r,u = .agg #[p,q,r]/\Own3 B w p q r (D.ln++D.ln') (D.sm++D.sm') (D.ws++D.ws')
 | 19=>∃ b cs fr,u=pt b 0/\Bx w b [.slice none 0 0,.slice none 0 0,.slice none 0 0]/\B<=b/\w.heap[b]? = some (.cells cs 50 fr)
 | _=>True
theorem zbP {B z n:Nat} {t:TypeId} {v:Value} {xs:List Value} {w w1:World} (h:w.ownsRow B t z v n xs) (hb:Below w.heap.size w w1):w1.ownsRow B t z v n xs:=zaA h (λj e=>hb.block j (h.lt j e).2)
theorem twoAt.kept {w w1:World} {u x y:Value} (h:twoAt w u x y) (hb:Below w.heap.size w w1):twoAt w1 u x y:=by
 obtain ⟨b,h1,h2,h3,h4⟩:=h
 exact ⟨b,h1,(hb.cell (p:=⟨b,0,none⟩) h4).trans h2,(hb.cell (p:=⟨b,1,none⟩) h4).trans h3,Nat.lt_of_lt_of_le h4 hb.size⟩
theorem Own3.kept {B:Nat} {w w1:World} {p q r:Value} {ln:List Lin} {sm:List UInt8} {ws:List Wt} (h:Own3 B w p q r ln sm ws) (hb:Below w.heap.size w w1):Own3 B w1 p q r ln sm ws:=⟨zbP h.ln hb,zbP h.sm hb,zbP h.ws hb⟩
theorem Cat.phi_kept {D:Cat} {B i:Nat} {u:Value} {w w1:World} (h:D.phi B i u w) (hb:Below w.heap.size w w1):D.phi B i u w1:=by
 unfold Cat.phi at h ⊢
 split at h
 ·exact h
 ·exact h
 ·exact h
 ·exact h
 ·exact h.kept hb
 ·exact zbP h hb
 ·exact h
 ·exact h
 ·exact h
 ·exact h
 ·exact h.kept hb
 ·exact zbP h hb
 ·exact h
 ·exact h
 ·exact h
 ·exact h
 ·exact h.kept hb
 ·exact zbP h hb
 ·obtain ⟨p,q,r,h1,h2⟩:=h
  exact ⟨p,q,r,h1,h2.kept hb⟩
 ·obtain ⟨b,cs,fr,h1,h2,h3,h4⟩:=h
  exact ⟨b,cs,fr,h1,h2.kept hb,h3,(hb.block b h2.z).trans h4⟩
 ·trivial
/-! ### single operations, over any frame -/
section
variable {P : Program} {ops : Array Oper} {Q : Exit -> Act -> World -> Prop} {o : Oper} {a : Act} {w w' : World} {v r : Value} {K : Act -> World -> Prop} {ρ : Operand -> Value}
theorem zbd (hg:o.guard=none) (h:(execOp a.eval o).run P w = .ok (.value v) w') (hk:K (a.put o.dst v) w'):if Region.wanted o (yielded ops a.tmps)=true then Oper.wp P o a w K Q else K (a.put o.dst undef) w:=by
 rw [if_pos (by simp [Region.wanted,hg])]
 unfold Oper.wp
 rw [h]
 exact hk
theorem zcQ {s:TypeId} {x:Operand} {f:Nat} (ho:o.op = .fieldAddr s x f) (hr:(Instr.fieldAt s (ρ x) f).run P w = .ok r w'):(execOp ρ o).run P w = .ok (.value r) w':=by
 unfold execOp
 simp only [ho,Sem.run_bind,hr,Result.andThen_ok,Sem.run_pure]
theorem zeF {t:TypeId} {x:Operand} (ho:o.op = .load t x) (hr:(Instr.loadAt t (ρ x)).run P w = .ok r w'):(execOp ρ o).run P w = .ok (.value r) w':=by
 unfold execOp
 simp only [ho,Sem.run_bind,hr,Result.andThen_ok,Sem.run_pure]
theorem zfx {t:TypeId} {n:Nat} {ps:Array (Nat × Operand)} (ho:o.op = .buildSlice t n ps) (hr:(Instr.buildSlice t n (ps.map λ(i,x)=>(i,ρ x))).run P w = .ok r w'):(execOp ρ o).run P w = .ok (.value r) w':=by
 unfold execOp
 simp only [ho,Sem.run_bind,hr,Result.andThen_ok,Sem.run_pure]
theorem znY {t:TypeId} {ps:Array (Nat × Operand)} (ho:o.op = .build t ps) (hr:(Instr.build t (ps.map λ(i,x)=>(i,ρ x))).run P w = .ok r w'):(execOp ρ o).run P w = .ok (.value r) w':=by
 unfold execOp
 simp only [ho,Sem.run_bind,hr,Result.andThen_ok,Sem.run_pure]
theorem znZ {t:TypeId} (ho:o.op = .alloc t) (hr:(Instr.alloc t true (.tuple #[])).run P w = .ok r w'):(execOp ρ o).run P w = .ok (.value r) w':=by
 unfold execOp
 simp only [ho,Sem.run_bind,hr,Result.andThen_ok,Sem.run_pure]
theorem zgJ {f:Nat} {x:Operand} {ts:Array TypeId} {R:Value->World->Prop} (hg:o.guard=none) (ho:o.op = .call { callee:=.value (.func f),args:=#[x],argTypes:=ts }) (hx:a.eval x=v) (hcf:∀ (xs:Array Value) (w:World),(callFunc f xs).run P w = .ok (.enter f xs) w)
 (hc:Calls P f #[v] w λe w'=>∃ u,e = .returned u/\R u w') (hk:∀ u w',R u w'->K (a.put o.dst u) w'):if Region.wanted o (yielded ops a.tmps)=true then Oper.wp P o a w K Q else K (a.put o.dst undef) w:=by
 rw [if_pos (by simp [Region.wanted,hg])]
 unfold Oper.wp
 have he:(execOp a.eval o).run P w = .ok (.enter f #[v]) w:=by
  have hf:a.eval (.func f) = .func (.func f) #[] #[]:=rfl
  unfold execOp
  simp [ho,resolve,invoke,hx,hf,hcf,Deferred.ofValue]
 rw [he,Oper.upon_enter]
 refine hc.mono ?_
 rintro e w' ⟨u,rfl,hR⟩
 exact hk u w' hR
end
theorem zpm (b:Nat) (w:World):(Instr.fieldAt 50 (pt b 0) 0).run Tryz.prog w = .ok (pt b 0) w:=by kernel_rfl
theorem zpn (b:Nat) (w:World):(Instr.fieldAt 50 (pt b 0) 1).run Tryz.prog w = .ok (pt b 1) w:=by kernel_rfl
theorem zpo (b:Nat) (w:World):(Instr.fieldAt 50 (pt b 0) 2).run Tryz.prog w = .ok (pt b 2) w:=by kernel_rfl
theorem fld3 (b k:Nat) (hk:k<3) (w:World):(Instr.fieldAt 50 (pt b 0) k).run Tryz.prog w = .ok (pt b k) w:=by
 have h:k=0 \/ k=1 \/ k=2:=by omega
 rcases h with rfl|rfl|rfl
 ·exact zpm b w
 ·exact zpn b w
 ·exact zpo b w
theorem ld1 {w:World} {b k n c:Nat} {a:Option Addr} {t:TypeId} (ht:∀ w,(isAgg t).run Tryz.prog w = .ok false w) (h:w.cell? ⟨b,k,none⟩=some (.slice a n c)):(Instr.loadAt t (pt b k)).run Tryz.prog w = .ok (.slice a n c) w:=by
 go_simp
theorem bsLn (a a':Option Addr) (n n' c c':Nat) (w:World):(Instr.buildSlice 100 2 #[(0,.slice a n c),(1,.slice a' n' c')]).run Tryz.prog w = .ok (.slice (some ⟨w.heap.size,0,none⟩) 2 2) (w.alloc (.cells #[.slice a n c,.slice a' n' c'] 47)):=by kernel_rfl
theorem bsBy (a a':Option Addr) (n n' c c':Nat) (w:World):(Instr.buildSlice 102 2 #[(0,.slice a n c),(1,.slice a' n' c')]).run Tryz.prog w = .ok (.slice (some ⟨w.heap.size,0,none⟩) 2 2) (w.alloc (.cells #[.slice a n c,.slice a' n' c'] 26)):=by kernel_rfl
theorem bsWr (a a':Option Addr) (n n' c c':Nat) (w:World):(Instr.buildSlice 104 2 #[(0,.slice a n c),(1,.slice a' n' c')]).run Tryz.prog w = .ok (.slice (some ⟨w.heap.size,0,none⟩) 2 2) (w.alloc (.cells #[.slice a n c,.slice a' n' c'] 48)):=by kernel_rfl
theorem bdSh (a a' a'':Option Addr) (n n' n'' c c' c'':Nat) (w:World):(Instr.build 50 #[(0,.slice a n c),(1,.slice a' n' c'),(2,.slice a'' n'' c'')]).run Tryz.prog w = .ok (.agg #[.slice a n c,.slice a' n' c',.slice a'' n'' c'']) w:=by kernel_rfl
theorem alSh (w:World):(Instr.alloc 50 true (.tuple #[])).run Tryz.prog w = .ok (pt w.heap.size 0) (w.alloc (.cells #[.slice none 0 0,.slice none 0 0,.slice none 0 0] 50)):=by kernel_rfl
def cPt:List Bool->Code->Code
 | [],c=>c
 | b::l,.seq x y=>cPt l (if b then y else x)
 | _::_,c=>c
def needs (o:Oper) (l:List Nat):Bool:=l.all λj=>o.after.toList.any λe=>Region.binds .any e && e.on == j
theorem needs_at {o:Oper} {l:List Nat} {listed:Array Bool} (h:needs o l=true) (hall:∀ e∈o.after,Region.binds .any e=true->listed.getD e.on false=true):∀ j∈l,listed.getD j false=true:=λj hj=>by
 have h1:=List.all_eq_true.1 h j hj
 obtain ⟨e,he,h2⟩:=List.any_eq_true.1 h1
 simp only [Bool.and_eq_true,beq_iff_eq] at h2
 have:=hall e (by simpa using he) h2.1
 rwa [h2.2] at this
def row (o:Oper) (l:List Nat):Option Nat × Option (Nat × Bool) × Op × Bool:=(o.dst,o.guard,o.op,needs o l)
def dstOf (i:Nat):Nat:=if i=19 then 21 else 102+i
theorem dst_ne {i j:Nat} (h:i≠j) (hi:i<20) (hj:j<20):dstOf i≠dstOf j:=by
 unfold dstOf
 split <;> split <;> omega
theorem dst_out {i d:Nat} (hi:i<20) (hd:d<102 \/ 120<d) (h21:d≠21):d≠dstOf i:=by
 unfold dstOf
 split <;> omega
theorem dst_lt {i:Nat} (hi:i<20):dstOf i<141:=by
 unfold dstOf
 split <;> omega
structure CInv (D : Cat) (w0 : World) (u : Nat -> Value) (listed : Array Bool) (a : Act) (w : World) : Prop where
 sz:a.tmps.size=141
 df:a.defers=[]
 low:Below w0.heap.size w0 w
 keep:∀ d,(d<102 \/ 120<d)->d≠21->sv a d=u d
 phi:∀ i,i<20->listed.getD i false=true->D.phi w0.heap.size i (sv a (dstOf i)) w
structure CEnd (D : Cat) (w0 : World) (u : Nat -> Value) (a : Act) (w : World) : Prop where
 sz:a.tmps.size=141
 df:a.defers=[]
 low:Below w0.heap.size w0 w
 keep:∀ d,(d<102 \/ 120<d)->d≠21->sv a d=u d
 out:∃ b p q r,sv a 21=pt b 0/\Bx w b [p,q,r]/\Own3 w0.heap.size w p q r (D.ln++D.ln') (D.sm++D.sm') (D.ws++D.ws')
theorem getD_set {l:Array Bool} {i j:Nat} (h:j≠i):(l.setIfInBounds i true).getD j false=l.getD j false:=by
 rw [Array.getD_eq_getD_getElem?,Array.getD_eq_getD_getElem?,Array.getElem?_setIfInBounds_ne (by omega)]
theorem CInv.go {D:Cat} {w0:World} {u:Nat->Value} {listed:Array Bool} {a:Act} {w w':World} {i:Nat} {v:Value} (h:CInv D w0 u listed a w) (hi:i<20) (hb:Below w.heap.size w w') (hv:D.phi w0.heap.size i v w'):CInv D w0 u (listed.setIfInBounds i true) (a.put (some (dstOf i)) v) w':=by
 have hlt:dstOf i<a.tmps.size:=by rw [h.sz];exact dst_lt hi
 refine ⟨by rw [size_put];exact h.sz,h.df,stp h.low hb,λd hd h21=>by rw [sv_ne (dst_out hi hd h21)];exact h.keep d hd h21,λj hj hl=>?_⟩
 by_cases hji:j=i
 ·subst hji
  rw [zmJ hlt]
  exact hv
 ·rw [getD_set hji] at hl
  rw [sv_ne (dst_ne hji hj hi)]
  exact Cat.phi_kept (h.phi j hj hl) hb
theorem getD_two {l:Array Bool} {i:Nat} (h:i<l.size) (ht:l.getD i true=true):l.getD i false=true:=by
 rw [Array.getD_eq_getD_getElem?,Array.getElem?_eq_getElem h] at ht ⊢
 exact ht
theorem getD_set' {l:Array Bool} {i j:Nat} (h:j≠i):(l.setIfInBounds i true).getD j true=l.getD j true:=by
 rw [Array.getD_eq_getD_getElem?,Array.getD_eq_getD_getElem?,Array.getElem?_setIfInBounds_ne (by omega)]
def CIn (D:Cat) (w0:World) (u:Nat->Value) (listed:Array Bool) (a:Act) (w:World):Prop:=(CInv D w0 u listed a w/\listed.getD 20 true=false) \/ (∀ j,j<21->listed.getD j false=true)/\CEnd D w0 u a w
theorem rw16_one (f:Nat->Nat):∀ u∈row16 f,u.oneCell'=true:=λu hu=>by
 obtain ⟨x,_,rfl⟩:=List.mem_map.1 hu
 rfl
theorem lcs_one:∀ l:List Lin,∀ u∈lcs l,u.oneCell'=true
 | [],u,h=>by cases h
 | x::l,u,h=>by
  simp only [lcs,List.mem_cons,List.mem_append] at h
  rcases h with rfl|rfl|h|h
  ·rfl
  ·rfl
  ·exact rw16_one _ u h
  ·exact lcs_one l u h
theorem wcs_one:∀ l:List Wt,∀ u∈wcs l,u.oneCell'=true
 | [],u,h=>by cases h
 | x::l,u,h=>by
  simp only [wcs,List.mem_cons] at h
  rcases h with rfl|rfl|rfl|h
  ·rfl
  ·rfl
  ·rfl
  ·exact wcs_one l u h
theorem bcs_one (l:List UInt8):∀ u∈bcs l,u.oneCell'=true:=λu hu=>by
 simp only [bcs,List.mem_map] at hu
 obtain ⟨c,_,rfl⟩:=hu
 rfl
theorem own_base {B B' z n:Nat} {t:TypeId} {v:Value} {xs:List Value} {w:World} (h:w.ownsRow B t z v n xs) (hB:B'<=B):w.ownsRow B' t z v n xs:=by
 refine ⟨h.1,?_⟩
 rcases h.2 with h1|⟨g,cap,cur,h1,h2,h3⟩
 ·exact Or.inl h1
 ·exact Or.inr ⟨g,cap,cur,h1,Nat.le_trans hB h2,h3⟩
theorem row_apart {B z n:Nat} {t t':TypeId} {v:Value} {xs:List Value} {w:World} {b:Nat} {cs:Array Value} {fr:Nat × Nat} (h:w.ownsRow B t z v n xs) (hb:w.heap[b]? = some (.cells cs t' fr)) (ht:t≠t') (vs:List Value):(w.setCells b 0 vs).ownsRow B t z v n xs :=
 zaA h (λj e=>zag (λe2=>by
  obtain ⟨_,_,cs',h3⟩:=zaJ h j e
  rw [e2,hb] at h3
  cases h3
  exact ht rfl) _ _ _)
theorem fld {H:Type} {enc:TypeId × Value->H} {P:Program} {w:World} {base:Nat} {spare:Nat->Bool} {held:Bool} {n i o:Nat} {ty:TypeId} {cs:List Value} {xs:List (DataW H × List MemPlace)}
 (h:DataW.trod enc P w base spare held n ty ((cs.drop o).take (P.cellsOf ty))=xs[i]?) (hi:i<xs.length) (hc:P.cellsOf ty=1) {v:Value} (hv:cs[o]? = some v):∃ y,DataW.trod enc P w base spare held n ty [v]=some y:=by
 rw [hc,List.getElem?_eq_getElem hi] at h
 have e:(cs.drop o).take 1=[v]:=by
  rw [List.take_one,List.head?_drop,hv]
  rfl
 rw [e] at h
 exact ⟨_,h⟩
theorem zaw {H:Type} {enc:TypeId × Value->H} {P:Program} {w:World} {base:Nat} {spare:Nat->Bool} {held:Bool} {n i o:Nat} {ty:TypeId} {cs:List Value} {xs:List (DataW H × List MemPlace)} {k:IntKind}
 (h:DataW.trod enc P w base spare held n ty ((cs.drop o).take (P.cellsOf ty))=xs[i]?) (hi:i<xs.length) (hc:P.cellsOf ty=1) (ht:P.underlying ty=some (.int k)) {v:Value} (hv:cs[o]? = some v):∃ a:Int,v = .int k a/\(Lit.int k a).wf=true:=by
 obtain ⟨y,hy⟩:=fld h hi hc hv
 obtain ⟨a,e,_,hw⟩:=DataW.trod_int ht hy
 simp only [List.cons.injEq,and_true] at e
 exact ⟨a,e,hw⟩
theorem zaQ {H:Type} {enc:TypeId × Value->H} {P:Program} {w:World} {base:Nat} {spare:Nat->Bool} {held:Bool} {n i o:Nat} {ty:TypeId} {cs:List Value} {xs:List (DataW H × List MemPlace)}
 (h:DataW.trod enc P w base spare held n ty ((cs.drop o).take (P.cellsOf ty))=xs[i]?) (hi:i<xs.length) (hc:P.cellsOf ty=1) (ht:P.underlying ty=some .bool) {v:Value} (hv:cs[o]? = some v):∃ a:Bool,v = .bool a:=by
 obtain ⟨y,hy⟩:=fld h hi hc hv
 obtain ⟨a,e,_⟩:=DataW.trod_bool ht hy
 simp only [List.cons.injEq,and_true] at e
 exact ⟨a,e⟩
theorem zcR {H:Type} {enc:TypeId × Value->H} {w:World} {base:Nat} {spare:Nat->Bool} {held:Bool} {m:Nat} {c0 c1 c2 c3 c4:Value} {x:DataW H × List MemPlace} (h:DataW.trod enc Tryz.prog w base spare held m 33 [c0,c1,c2,c3,c4]=some x) :
 ∃ v:Vc,[c0,c1,c2,c3,c4]=vcs v/\v.ok:=by
 have hU:Tryz.prog.cellsOf 22=1:=by kernel_rfl
 have hB:Tryz.prog.cellsOf 4=1:=by kernel_rfl
 have hE:Tryz.prog.cellsOf 5=1:=by kernel_rfl
 obtain ⟨xs,n,_,_,_,hlen,hfs⟩:=DataW.trod_struct Tryz.underlying33 h
 have hl5:xs.length=5:=hlen
 obtain ⟨a0,rfl,w0⟩:=zaw (ty:=22) (o:=0) (v:=c0) (hfs 0 _ rfl) (by omega) hU Tryz.underlying22 rfl
 obtain ⟨a1,rfl,w1⟩:=zaw (ty:=22) (o:=1) (v:=c1) (hfs 1 _ rfl) (by omega) hU Tryz.underlying22 rfl
 obtain ⟨a2,rfl,w2⟩:=zaw (ty:=5) (o:=2) (v:=c2) (hfs 2 _ rfl) (by omega) hE Tryz.underlying5 rfl
 obtain ⟨b3,rfl⟩:=zaQ (ty:=4) (o:=3) (v:=c3) (hfs 3 _ rfl) (by omega) hB Tryz.underlying4 rfl
 obtain ⟨a4,rfl,w4⟩:=zaw (ty:=22) (o:=4) (v:=c4) (hfs 4 _ rfl) (by omega) hU Tryz.underlying22 rfl
 exact ⟨⟨a0,a1,a2,b3,a4⟩,rfl,bounds_u16 w0,bounds_u16 w1,bounds_u8 w2,bounds_u16 w4⟩
end Go.Proofs.YtbennamieealbaaGreatDoor
