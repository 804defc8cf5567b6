/-
  Parts of a proof, joined.
-/
import Derived.Test.YtbennamieealbaaGreatDoorZc38
import Derived.Test.YtbennamieealbaaGreatDoorZc39
import Derived.Test.YtbennamieealbaaGreatDoorZc14
import Derived.Test.YtbennamieealbaaGreatDoorZc23
set_option linter.unusedVariables false
set_option maxRecDepth 100000
set_option maxHeartbeats 800000
namespace Go.Proofs.YtbennamieealbaaGreatDoor
open Go.ChangeShapes Go.WideShapes Go.ChangeAt Go.RowKit
structure Cat where
 sb:Nat
 tb:Nat
 a1:Option Addr
 c1:Nat
 a2:Option Addr
 c2:Nat
 a3:Option Addr
 c3:Nat
 b1:Option Addr
 d1:Nat
 b2:Option Addr
 d2:Nat
 b3:Option Addr
 d3:Nat
 ln:List Lin
 sm:List UInt8
 ws:List Wt
 ln':List Lin
 sm':List UInt8
 ws':List Wt
abbrev Cat.p1 (D:Cat):Value:=.slice D.a1 D.ln.length D.c1
abbrev Cat.p2 (D:Cat):Value:=.slice D.a2 D.sm.length D.c2
abbrev Cat.p3 (D:Cat):Value:=.slice D.a3 D.ws.length D.c3
abbrev Cat.q1 (D:Cat):Value:=.slice D.b1 D.ln'.length D.d1
abbrev Cat.q2 (D:Cat):Value:=.slice D.b2 D.sm'.length D.d2
abbrev Cat.q3 (D:Cat):Value:=.slice D.b3 D.ws'.length D.d3
structure Cat.at (D : Cat) (w : World) : Prop where
 s:Bx w D.sb [D.p1,D.p2,D.p3]
 t:Bx w D.tb [D.q1,D.q2,D.q3]
 x:ShAt w D.p1 D.p2 D.p3 D.ln D.sm D.ws
 y:ShAt w D.q1 D.q2 D.q3 D.ln' D.sm' D.ws'
 l1:D.ln.length+D.ln'.length<=100000
 l2:D.sm.length+D.sm'.length<=100000
 l3:D.ws.length+D.ws'.length<=100000
theorem Cat.at.kept {D:Cat} {w w1:World} (h:D.at w) (hb:Below w.heap.size w w1):D.at w1:=⟨h.s.kept hb,h.t.kept hb,h.x.kept hb,h.y.kept hb,h.l1,h.l2,h.l3⟩
def twoAt (w:World) (u x y:Value):Prop:=∃ b,u = .slice (some ⟨b,0,none⟩) 2 2/\w.cell? ⟨b,0,none⟩=some x/\w.cell? ⟨b,1,none⟩=some y/\b<w.heap.size
structure Own3 (B : Nat) (w : World) (p q r : Value) (ln : List Lin) (sm : List UInt8) (ws : List Wt) : Prop where
 ln:w.ownsRow B 62 18 p ln.length (lcs ln)
 sm:w.ownsRow B 5 1 q sm.length (bcs sm)
 ws:w.ownsRow B 66 3 r ws.length (wcs ws)
def Cat.phi (D:Cat) (B:Nat) (i:Nat) (u:Value) (w:World):Prop :=
 match i with
 | 0=>u=pt D.sb 0
 | 1=>u=D.p1
 | 2=>u=pt D.tb 0
 | 3=>u=D.q1
 | 4=>twoAt w u D.p1 D.q1
 | 5=>w.ownsRow B 62 18 u (D.ln.length+D.ln'.length) (lcs D.ln++lcs D.ln')
 | 6=>u=pt D.sb 1
 | 7=>u=D.p2
 | 8=>u=pt D.tb 1
 | 9=>u=D.q2
 | 10=>twoAt w u D.p2 D.q2
 | 11=>w.ownsRow B 5 1 u (D.sm.length+D.sm'.length) (bcs D.sm++bcs D.sm')
 | 12=>u=pt D.sb 2
 | 13=>u=D.p3
 | 14=>u=pt D.tb 2
 | 15=>u=D.q3
 | 16=>twoAt w u D.p3 D.q3
 | 17=>w.ownsRow B 66 3 u (D.ws.length+D.ws'.length) (wcs D.ws++wcs D.ws')
 | 18=>∃ p q r,u = .agg #[p,q,r]/\Own3 B w p q r (D.ln++D.ln') (D.sm++D.sm') (D.ws++D.ws')
 | 19=>∃ b cs fr,u=pt b 0/\Bx w b [.slice none 0 0,.slice none 0 0,.slice none 0 0]/\B<=b/\w.heap[b]? = some (.cells cs 50 fr)
 | _=>True
theorem zbK {B z n:Nat} {t:TypeId} {v:Value} {xs:List Value} {w w1:World} (h:w.ownsRow B t z v n xs) (hb:Below w.heap.size w w1):w1.ownsRow B t z v n xs:=zaF h (λj e=>hb.block j (h.lt j e).2)
theorem twoAt.kept {w w1:World} {u x y:Value} (h:twoAt w u x y) (hb:Below w.heap.size w w1):twoAt w1 u x y:=by
 obtain ⟨b,h1,h2,h3,h4⟩:=h
 exact ⟨b,h1,(hb.cell (p:=⟨b,0,none⟩) h4).trans h2,(hb.cell (p:=⟨b,1,none⟩) h4).trans h3,Nat.lt_of_lt_of_le h4 hb.size⟩
theorem Own3.kept {B:Nat} {w w1:World} {p q r:Value} {ln:List Lin} {sm:List UInt8} {ws:List Wt} (h:Own3 B w p q r ln sm ws) (hb:Below w.heap.size w w1):Own3 B w1 p q r ln sm ws:=⟨zbK h.ln hb,zbK h.sm hb,zbK h.ws hb⟩
theorem Cat.phi_kept {D:Cat} {B i:Nat} {u:Value} {w w1:World} (h:D.phi B i u w) (hb:Below w.heap.size w w1):D.phi B i u w1:=by
 unfold Cat.phi at h ⊢
 split at h
 ·exact h
 ·exact h
 ·exact h
 ·exact h
 ·exact h.kept hb
 ·exact zbK h hb
 ·exact h
 ·exact h
 ·exact h
 ·exact h
 ·exact h.kept hb
 ·exact zbK h hb
 ·exact h
 ·exact h
 ·exact h
 ·exact h
 ·exact h.kept hb
 ·exact zbK h hb
 ·obtain ⟨p,q,r,h1,h2⟩:=h
  exact ⟨p,q,r,h1,h2.kept hb⟩
 ·obtain ⟨b,cs,fr,h1,h2,h3,h4⟩:=h
  exact ⟨b,cs,fr,h1,h2.kept hb,h3,(hb.block b h2.z).trans h4⟩
 ·trivial
/-! ### single operations, over any frame -/
section
variable {P : Program} {ops : Array Oper} {Q : Exit -> Act -> World -> Prop} {o : Oper} {a : Act} {w w' : World} {v r : Value} {K : Act -> World -> Prop} {ρ : Operand -> Value}
theorem zbj (hg:o.guard=none) (h:(execOp a.eval o).run P w = .ok (.value v) w') (hk:K (a.put o.dst v) w'):if Region.wanted o (yielded ops a.tmps)=true then Oper.wp P o a w K Q else K (a.put o.dst undef) w:=by
 rw [if_pos (by simp [Region.wanted,hg])]
 unfold Oper.wp
 rw [h]
 exact hk
theorem zde {s:TypeId} {x:Operand} {f:Nat} (ho:o.op = .fieldAddr s x f) (hr:(Instr.fieldAt s (ρ x) f).run P w = .ok r w'):(execOp ρ o).run P w = .ok (.value r) w':=by
 unfold execOp
 simp only [ho,Sem.run_bind,hr,Result.andThen_ok,Sem.run_pure]
theorem zfr {t:TypeId} {x:Operand} (ho:o.op = .load t x) (hr:(Instr.loadAt t (ρ x)).run P w = .ok r w'):(execOp ρ o).run P w = .ok (.value r) w':=by
 unfold execOp
 simp only [ho,Sem.run_bind,hr,Result.andThen_ok,Sem.run_pure]
theorem zgC {t:TypeId} {n:Nat} {ps:Array (Nat × Operand)} (ho:o.op = .buildSlice t n ps) (hr:(Instr.buildSlice t n (ps.map λ(i,x)=>(i,ρ x))).run P w = .ok r w'):(execOp ρ o).run P w = .ok (.value r) w':=by
 unfold execOp
 simp only [ho,Sem.run_bind,hr,Result.andThen_ok,Sem.run_pure]
theorem zq7 {t:TypeId} {ps:Array (Nat × Operand)} (ho:o.op = .build t ps) (hr:(Instr.build t (ps.map λ(i,x)=>(i,ρ x))).run P w = .ok r w'):(execOp ρ o).run P w = .ok (.value r) w':=by
 unfold execOp
 simp only [ho,Sem.run_bind,hr,Result.andThen_ok,Sem.run_pure]
theorem zq8 {t:TypeId} (ho:o.op = .alloc t) (hr:(Instr.alloc t true (.tuple #[])).run P w = .ok r w'):(execOp ρ o).run P w = .ok (.value r) w':=by
 unfold execOp
 simp only [ho,Sem.run_bind,hr,Result.andThen_ok,Sem.run_pure]
theorem ziL {f:Nat} {x:Operand} {ts:Array TypeId} {R:Value->World->Prop} (hg:o.guard=none) (ho:o.op = .call { callee:=.value (.func f),args:=#[x],argTypes:=ts }) (hx:a.eval x=v) (hcf:∀ (xs:Array Value) (w:World),(callFunc f xs).run P w = .ok (.enter f xs) w)
 (hc:Calls P f #[v] w λe w'=>∃ u,e = .returned u/\R u w') (hk:∀ u w',R u w'->K (a.put o.dst u) w'):if Region.wanted o (yielded ops a.tmps)=true then Oper.wp P o a w K Q else K (a.put o.dst undef) w:=by
 rw [if_pos (by simp [Region.wanted,hg])]
 unfold Oper.wp
 have he:(execOp a.eval o).run P w = .ok (.enter f #[v]) w:=by
  have hf:a.eval (.func f) = .func (.func f) #[] #[]:=rfl
  unfold execOp
  simp [ho,resolve,invoke,hx,hf,hcf,Deferred.ofValue]
 rw [he,Oper.upon_enter]
 refine hc.mono ?_
 rintro e w' ⟨u,rfl,hR⟩
 exact hk u w' hR
end
theorem zst (b:Nat) (w:World):(Instr.fieldAt 50 (pt b 0) 0).run Tryz.prog w = .ok (pt b 0) w:=by kernel_rfl
theorem zsu (b:Nat) (w:World):(Instr.fieldAt 50 (pt b 0) 1).run Tryz.prog w = .ok (pt b 1) w:=by kernel_rfl
theorem zsv (b:Nat) (w:World):(Instr.fieldAt 50 (pt b 0) 2).run Tryz.prog w = .ok (pt b 2) w:=by kernel_rfl
theorem fld3 (b k:Nat) (hk:k<3) (w:World):(Instr.fieldAt 50 (pt b 0) k).run Tryz.prog w = .ok (pt b k) w:=by
 have h:k=0 \/ k=1 \/ k=2:=by omega
 rcases h with rfl|rfl|rfl
 ·exact zst b w
 ·exact zsu b w
 ·exact zsv b w
theorem ld1 {w:World} {b k n c:Nat} {a:Option Addr} {t:TypeId} (ht:∀ w,(isAgg t).run Tryz.prog w = .ok false w) (h:w.cell? ⟨b,k,none⟩=some (.slice a n c)):(Instr.loadAt t (pt b k)).run Tryz.prog w = .ok (.slice a n c) w:=by
 go_simp
theorem bsLn (a a':Option Addr) (n n' c c':Nat) (w:World):(Instr.buildSlice 100 2 #[(0,.slice a n c),(1,.slice a' n' c')]).run Tryz.prog w = .ok (.slice (some ⟨w.heap.size,0,none⟩) 2 2) (w.alloc (.cells #[.slice a n c,.slice a' n' c'] 47)):=by kernel_rfl
theorem bsBy (a a':Option Addr) (n n' c c':Nat) (w:World):(Instr.buildSlice 102 2 #[(0,.slice a n c),(1,.slice a' n' c')]).run Tryz.prog w = .ok (.slice (some ⟨w.heap.size,0,none⟩) 2 2) (w.alloc (.cells #[.slice a n c,.slice a' n' c'] 26)):=by kernel_rfl
theorem bsWr (a a':Option Addr) (n n' c c':Nat) (w:World):(Instr.buildSlice 104 2 #[(0,.slice a n c),(1,.slice a' n' c')]).run Tryz.prog w = .ok (.slice (some ⟨w.heap.size,0,none⟩) 2 2) (w.alloc (.cells #[.slice a n c,.slice a' n' c'] 48)):=by kernel_rfl
theorem bdSh (a a' a'':Option Addr) (n n' n'' c c' c'':Nat) (w:World):(Instr.build 50 #[(0,.slice a n c),(1,.slice a' n' c'),(2,.slice a'' n'' c'')]).run Tryz.prog w = .ok (.agg #[.slice a n c,.slice a' n' c',.slice a'' n'' c'']) w:=by kernel_rfl
theorem alSh (w:World):(Instr.alloc 50 true (.tuple #[])).run Tryz.prog w = .ok (pt w.heap.size 0) (w.alloc (.cells #[.slice none 0 0,.slice none 0 0,.slice none 0 0] 50)):=by kernel_rfl
def cPt:List Bool->Code->Code
 | [],c=>c
 | b::l,.seq x y=>cPt l (if b then y else x)
 | _::_,c=>c
def needs (o:Oper) (l:List Nat):Bool:=l.all λj=>o.after.toList.any λe=>Region.binds .any e && e.on == j
theorem needs_at {o:Oper} {l:List Nat} {listed:Array Bool} (h:needs o l=true) (hall:∀ e∈o.after,Region.binds .any e=true->listed.getD e.on false=true):∀ j∈l,listed.getD j false=true:=λj hj=>by
 have h1:=List.all_eq_true.1 h j hj
 obtain ⟨e,he,h2⟩:=List.any_eq_true.1 h1
 simp only [Bool.and_eq_true,beq_iff_eq] at h2
 have:=hall e (by simpa using he) h2.1
 rwa [h2.2] at this
def row (o:Oper) (l:List Nat):Option Nat × Option (Nat × Bool) × Op × Bool:=(o.dst,o.guard,o.op,needs o l)
def dstOf (i:Nat):Nat:=if i=19 then 21 else 102+i
theorem dst_ne {i j:Nat} (h:i≠j) (hi:i<20) (hj:j<20):dstOf i≠dstOf j:=by
 unfold dstOf
 split <;> split <;> omega
theorem dst_out {i d:Nat} (hi:i<20) (hd:d<102 \/ 120<d) (h21:d≠21):d≠dstOf i:=by
 unfold dstOf
 split <;> omega
theorem dst_lt {i:Nat} (hi:i<20):dstOf i<141:=by
 unfold dstOf
 split <;> omega
structure CInv (D : Cat) (w0 : World) (u : Nat -> Value) (listed : Array Bool) (a : Act) (w : World) : Prop where
 sz:a.tmps.size=141
 df:a.defers=[]
 low:Below w0.heap.size w0 w
 keep:∀ d,(d<102 \/ 120<d)->d≠21->sv a d=u d
 phi:∀ i,i<20->listed.getD i false=true->D.phi w0.heap.size i (sv a (dstOf i)) w
structure CEnd (D : Cat) (w0 : World) (u : Nat -> Value) (a : Act) (w : World) : Prop where
 sz:a.tmps.size=141
 df:a.defers=[]
 low:Below w0.heap.size w0 w
 keep:∀ d,(d<102 \/ 120<d)->d≠21->sv a d=u d
 out:∃ b p q r,sv a 21=pt b 0/\Bx w b [p,q,r]/\Own3 w0.heap.size w p q r (D.ln++D.ln') (D.sm++D.sm') (D.ws++D.ws')
theorem getD_set {l:Array Bool} {i j:Nat} (h:j≠i):(l.setIfInBounds i true).getD j false=l.getD j false:=by
 rw [Array.getD_eq_getD_getElem?,Array.getD_eq_getD_getElem?,Array.getElem?_setIfInBounds_ne (by omega)]
theorem CInv.go {D:Cat} {w0:World} {u:Nat->Value} {listed:Array Bool} {a:Act} {w w':World} {i:Nat} {v:Value} (h:CInv D w0 u listed a w) (hi:i<20) (hb:Below w.heap.size w w') (hv:D.phi w0.heap.size i v w'):CInv D w0 u (listed.setIfInBounds i true) (a.put (some (dstOf i)) v) w':=by
 have hlt:dstOf i<a.tmps.size:=by rw [h.sz];exact dst_lt hi
 refine ⟨by rw [size_put];exact h.sz,h.df,stp h.low hb,λd hd h21=>by rw [sv_ne (dst_out hi hd h21)];exact h.keep d hd h21,λj hj hl=>?_⟩
 by_cases hji:j=i
 ·subst hji
  rw [zpK hlt]
  exact hv
 ·rw [getD_set hji] at hl
  rw [sv_ne (dst_ne hji hj hi)]
  exact Cat.phi_kept (h.phi j hj hl) hb
theorem getD_two {l:Array Bool} {i:Nat} (h:i<l.size) (ht:l.getD i true=true):l.getD i false=true:=by
 rw [Array.getD_eq_getD_getElem?,Array.getElem?_eq_getElem h] at ht ⊢
 exact ht
theorem getD_set' {l:Array Bool} {i j:Nat} (h:j≠i):(l.setIfInBounds i true).getD j true=l.getD j true:=by
 rw [Array.getD_eq_getD_getElem?,Array.getD_eq_getD_getElem?,Array.getElem?_setIfInBounds_ne (by omega)]
def CIn (D:Cat) (w0:World) (u:Nat->Value) (listed:Array Bool) (a:Act) (w:World):Prop:=(CInv D w0 u listed a w/\listed.getD 20 true=false) \/ (∀ j,j<21->listed.getD j false=true)/\CEnd D w0 u a w
theorem rw16_one (f:Nat->Nat):∀ u∈row16 f,u.oneCell'=true:=λu hu=>by
 obtain ⟨x,_,rfl⟩:=List.mem_map.1 hu
 rfl
theorem lcs_one:∀ l:List Lin,∀ u∈lcs l,u.oneCell'=true
 | [],u,h=>by cases h
 | x::l,u,h=>by
  simp only [lcs,List.mem_cons,List.mem_append] at h
  rcases h with rfl|rfl|h|h
  ·rfl
  ·rfl
  ·exact rw16_one _ u h
  ·exact lcs_one l u h
theorem wcs_one:∀ l:List Wt,∀ u∈wcs l,u.oneCell'=true
 | [],u,h=>by cases h
 | x::l,u,h=>by
  simp only [wcs,List.mem_cons] at h
  rcases h with rfl|rfl|rfl|h
  ·rfl
  ·rfl
  ·rfl
  ·exact wcs_one l u h
theorem bcs_one (l:List UInt8):∀ u∈bcs l,u.oneCell'=true:=λu hu=>by
 simp only [bcs,List.mem_map] at hu
 obtain ⟨c,_,rfl⟩:=hu
 rfl
theorem own_base {B B' z n:Nat} {t:TypeId} {v:Value} {xs:List Value} {w:World} (h:w.ownsRow B t z v n xs) (hB:B'<=B):w.ownsRow B' t z v n xs:=by
 refine ⟨h.1,?_⟩
 rcases h.2 with h1|⟨g,cap,cur,h1,h2,h3⟩
 ·exact Or.inl h1
 ·exact Or.inr ⟨g,cap,cur,h1,Nat.le_trans hB h2,h3⟩
theorem row_apart {B z n:Nat} {t t':TypeId} {v:Value} {xs:List Value} {w:World} {b:Nat} {cs:Array Value} {fr:Nat × Nat} (h:w.ownsRow B t z v n xs) (hb:w.heap[b]? = some (.cells cs t' fr)) (ht:t≠t') (vs:List Value):(w.setCells b 0 vs).ownsRow B t z v n xs :=
 zaF h (λj e=>zad (λe2=>by
  obtain ⟨_,_,cs',h3⟩:=zaI h j e
  rw [e2,hb] at h3
  cases h3
  exact ht rfl) _ _ _)
theorem fld {H:Type} {enc:TypeId × Value->H} {P:Program} {w:World} {base:Nat} {spare:Nat->Bool} {held:Bool} {n i o:Nat} {ty:TypeId} {cs:List Value} {xs:List (DataW H × List MemPlace)}
 (h:DataW.trod enc P w base spare held n ty ((cs.drop o).take (P.cellsOf ty))=xs[i]?) (hi:i<xs.length) (hc:P.cellsOf ty=1) {v:Value} (hv:cs[o]? = some v):∃ y,DataW.trod enc P w base spare held n ty [v]=some y:=by
 rw [hc,List.getElem?_eq_getElem hi] at h
 have e:(cs.drop o).take 1=[v]:=by
  rw [List.take_one,List.head?_drop,hv]
  rfl
 rw [e] at h
 exact ⟨_,h⟩
theorem zaz {H:Type} {enc:TypeId × Value->H} {P:Program} {w:World} {base:Nat} {spare:Nat->Bool} {held:Bool} {n i o:Nat} {ty:TypeId} {cs:List Value} {xs:List (DataW H × List MemPlace)} {k:IntKind}
 (h:DataW.trod enc P w base spare held n ty ((cs.drop o).take (P.cellsOf ty))=xs[i]?) (hi:i<xs.length) (hc:P.cellsOf ty=1) (ht:P.underlying ty=some (.int k)) {v:Value} (hv:cs[o]? = some v):∃ a:Int,v = .int k a/\(Lit.int k a).wf=true:=by
 obtain ⟨y,hy⟩:=fld h hi hc hv
 obtain ⟨a,e,_,hw⟩:=DataW.trod_int ht hy
 simp only [List.cons.injEq,and_true] at e
 exact ⟨a,e,hw⟩
theorem zaW {H:Type} {enc:TypeId × Value->H} {P:Program} {w:World} {base:Nat} {spare:Nat->Bool} {held:Bool} {n i o:Nat} {ty:TypeId} {cs:List Value} {xs:List (DataW H × List MemPlace)}
 (h:DataW.trod enc P w base spare held n ty ((cs.drop o).take (P.cellsOf ty))=xs[i]?) (hi:i<xs.length) (hc:P.cellsOf ty=1) (ht:P.underlying ty=some .bool) {v:Value} (hv:cs[o]? = some v):∃ a:Bool,v = .bool a:=by
 obtain ⟨y,hy⟩:=fld h hi hc hv
 obtain ⟨a,e,_⟩:=DataW.trod_bool ht hy
 simp only [List.cons.injEq,and_true] at e
 exact ⟨a,e⟩
theorem zdf {H:Type} {enc:TypeId × Value->H} {w:World} {base:Nat} {spare:Nat->Bool} {held:Bool} {m:Nat} {c0 c1 c2 c3 c4:Value} {x:DataW H × List MemPlace} (h:DataW.trod enc Tryz.prog w base spare held m 33 [c0,c1,c2,c3,c4]=some x) :
 ∃ v:Vc,[c0,c1,c2,c3,c4]=vcs v/\v.ok:=by
 have hU:Tryz.prog.cellsOf 22=1:=by kernel_rfl
 have hB:Tryz.prog.cellsOf 4=1:=by kernel_rfl
 have hE:Tryz.prog.cellsOf 5=1:=by kernel_rfl
 obtain ⟨xs,n,_,_,_,hlen,hfs⟩:=DataW.trod_struct Tryz.underlying33 h
 have hl5:xs.length=5:=hlen
 obtain ⟨a0,rfl,w0⟩:=zaz (ty:=22) (o:=0) (v:=c0) (hfs 0 _ rfl) (by omega) hU Tryz.underlying22 rfl
 obtain ⟨a1,rfl,w1⟩:=zaz (ty:=22) (o:=1) (v:=c1) (hfs 1 _ rfl) (by omega) hU Tryz.underlying22 rfl
 obtain ⟨a2,rfl,w2⟩:=zaz (ty:=5) (o:=2) (v:=c2) (hfs 2 _ rfl) (by omega) hE Tryz.underlying5 rfl
 obtain ⟨b3,rfl⟩:=zaW (ty:=4) (o:=3) (v:=c3) (hfs 3 _ rfl) (by omega) hB Tryz.underlying4 rfl
 obtain ⟨a4,rfl,w4⟩:=zaz (ty:=22) (o:=4) (v:=c4) (hfs 4 _ rfl) (by omega) hU Tryz.underlying22 rfl
 exact ⟨⟨a0,a1,a2,b3,a4⟩,rfl,bounds_u16 w0,bounds_u16 w1,bounds_u8 w2,bounds_u16 w4⟩
theorem list2 {s:List Value} (h:s.length=2):∃ c0 c1,s=[c0,c1]:=by
 match s,h with
 | [c0,c1],_=>exact ⟨c0,c1,rfl⟩
theorem list3 {s:List Value} (h:s.length=3):∃ c0 c1 c2,s=[c0,c1,c2]:=by
 match s,h with
 | [c0,c1,c2],_=>exact ⟨c0,c1,c2,rfl⟩
theorem list4 {s:List Value} (h:s.length=4):∃ c0 c1 c2 c3,s=[c0,c1,c2,c3]:=by
 match s,h with
 | [c0,c1,c2,c3],_=>exact ⟨c0,c1,c2,c3,rfl⟩
theorem list6 {s:List Value} (h:s.length=6):∃ c0 c1 c2 c3 c4 c5,s=[c0,c1,c2,c3,c4,c5]:=by
 match s,h with
 | [c0,c1,c2,c3,c4,c5],_=>exact ⟨c0,c1,c2,c3,c4,c5,rfl⟩
theorem list15 {s:List Value} (h:s.length=15):∃ c0 c1 c2 c3 c4 c5 c6 c7 c8 c9 c10 c11 c12 c13 c14,s=[c0,c1,c2,c3,c4,c5,c6,c7,c8,c9,c10,c11,c12,c13,c14]:=by
 match s,h with
 | [c0,c1,c2,c3,c4,c5,c6,c7,c8,c9,c10,c11,c12,c13,c14],_=>exact ⟨c0,c1,c2,c3,c4,c5,c6,c7,c8,c9,c10,c11,c12,c13,c14,rfl⟩
theorem list16 {s:List Value} (h:s.length=16):∃ c0 c1 c2 c3 c4 c5 c6 c7 c8 c9 c10 c11 c12 c13 c14 c15,s=[c0,c1,c2,c3,c4,c5,c6,c7,c8,c9,c10,c11,c12,c13,c14,c15]:=by
 match s,h with
 | [c0,c1,c2,c3,c4,c5,c6,c7,c8,c9,c10,c11,c12,c13,c14,c15],_=>exact ⟨c0,c1,c2,c3,c4,c5,c6,c7,c8,c9,c10,c11,c12,c13,c14,c15,rfl⟩
theorem zna {H:Type} {enc:TypeId × Value->H} {w:World} {base:Nat} {spare:Nat->Bool} {held:Bool} {n:Nat} {x:DataW H × List MemPlace} {s:List Value} (h:DataW.trod enc Tryz.prog w base spare held n 25 s=some x) (hs:s.length=15):∃ c:C.Cpu,s=cpuL c/\c.ok:=by
 have hU:Tryz.prog.cellsOf 22=1:=by kernel_rfl
 have hB:Tryz.prog.cellsOf 4=1:=by kernel_rfl
 have hE:Tryz.prog.cellsOf 5=1:=by kernel_rfl
 have hI:Tryz.prog.cellsOf 3=1:=by kernel_rfl
 have hR:Tryz.prog.cellsOf 23=8:=by kernel_rfl
 obtain ⟨c0,c1,c2,c3,c4,c5,c6,c7,c8,c9,c10,c11,c12,c13,c14,rfl⟩:=list15 hs
 obtain ⟨xs,m,_,_,_,hlen,hfs⟩:=DataW.trod_struct Tryz.underlying25 h
 have hl8:xs.length=8:=hlen
 have g0:DataW.trod enc Tryz.prog w base spare held m 23 (([c0,c1,c2,c3,c4,c5,c6,c7,c8,c9,c10,c11,c12,c13,c14].drop 0).take (Tryz.prog.cellsOf 23))=xs[0]?:=hfs 0 _ rfl
 rw [List.getElem?_eq_getElem (by omega)] at g0
 obtain ⟨ys,k,_,_,_,hyl,hys⟩:=DataW.trod_array Tryz.underlying23 g0
 obtain ⟨a0,rfl,w0⟩:=zaz (o:=0*Tryz.prog.cellsOf 22) (v:=c0) (hys 0 (by omega)) (by omega) hU Tryz.underlying22 (by rw [hU,hR];rfl)
 obtain ⟨a1,rfl,w1⟩:=zaz (o:=1*Tryz.prog.cellsOf 22) (v:=c1) (hys 1 (by omega)) (by omega) hU Tryz.underlying22 (by rw [hU,hR];rfl)
 obtain ⟨a2,rfl,w2⟩:=zaz (o:=2*Tryz.prog.cellsOf 22) (v:=c2) (hys 2 (by omega)) (by omega) hU Tryz.underlying22 (by rw [hU,hR];rfl)
 obtain ⟨a3,rfl,w3⟩:=zaz (o:=3*Tryz.prog.cellsOf 22) (v:=c3) (hys 3 (by omega)) (by omega) hU Tryz.underlying22 (by rw [hU,hR];rfl)
 obtain ⟨a4,rfl,w4⟩:=zaz (o:=4*Tryz.prog.cellsOf 22) (v:=c4) (hys 4 (by omega)) (by omega) hU Tryz.underlying22 (by rw [hU,hR];rfl)
 obtain ⟨a5,rfl,w5⟩:=zaz (o:=5*Tryz.prog.cellsOf 22) (v:=c5) (hys 5 (by omega)) (by omega) hU Tryz.underlying22 (by rw [hU,hR];rfl)
 obtain ⟨a6,rfl,w6⟩:=zaz (o:=6*Tryz.prog.cellsOf 22) (v:=c6) (hys 6 (by omega)) (by omega) hU Tryz.underlying22 (by rw [hU,hR];rfl)
 obtain ⟨a7,rfl,w7⟩:=zaz (o:=7*Tryz.prog.cellsOf 22) (v:=c7) (hys 7 (by omega)) (by omega) hU Tryz.underlying22 (by rw [hU,hR];rfl)
 obtain ⟨a8,rfl,wa8⟩:=zaz (ty:=22) (o:=8) (v:=c8) (hfs 1 _ rfl) (by omega) hU Tryz.underlying22 rfl
 obtain ⟨b0,rfl⟩:=zaW (ty:=4) (o:=9) (v:=c9) (hfs 2 _ rfl) (by omega) hB Tryz.underlying4 rfl
 obtain ⟨b1,rfl⟩:=zaW (ty:=4) (o:=10) (v:=c10) (hfs 3 _ rfl) (by omega) hB Tryz.underlying4 rfl
 obtain ⟨b2,rfl⟩:=zaW (ty:=4) (o:=11) (v:=c11) (hfs 4 _ rfl) (by omega) hB Tryz.underlying4 rfl
 obtain ⟨b3,rfl⟩:=zaW (ty:=4) (o:=12) (v:=c12) (hfs 5 _ rfl) (by omega) hB Tryz.underlying4 rfl
 obtain ⟨b4,rfl⟩:=zaW (ty:=4) (o:=13) (v:=c13) (hfs 6 _ rfl) (by omega) hB Tryz.underlying4 rfl
 obtain ⟨b5,rfl⟩:=zaW (ty:=4) (o:=14) (v:=c14) (hfs 7 _ rfl) (by omega) hB Tryz.underlying4 rfl
 refine ⟨⟨[a0,a1,a2,a3,a4,a5,a6,a7],a8,b0,b1,b2,b3,b4,b5⟩,rfl,rfl,λz hz=>?_,(bounds_u16 wa8).1,(bounds_u16 wa8).2⟩
 simp only [List.mem_cons,List.not_mem_nil,or_false] at hz
 rcases hz with rfl|rfl|rfl|rfl|rfl|rfl|rfl|rfl
 ·exact bounds_u16 w0
 ·exact bounds_u16 w1
 ·exact bounds_u16 w2
 ·exact bounds_u16 w3
 ·exact bounds_u16 w4
 ·exact bounds_u16 w5
 ·exact bounds_u16 w6
 ·exact bounds_u16 w7
theorem znb {H:Type} {enc:TypeId × Value->H} {w:World} {base:Nat} {spare:Nat->Bool} {held:Bool} {n:Nat} {x:DataW H × List MemPlace} {s:List Value} (h:DataW.trod enc Tryz.prog w base spare held n 28 s=some x) (hs:s.length=3):∃ p:Pd,s=[.int .u8 p.d,.bool p.l,.int .u8 p.s]/\p.ok:=by
 have hU:Tryz.prog.cellsOf 22=1:=by kernel_rfl
 have hB:Tryz.prog.cellsOf 4=1:=by kernel_rfl
 have hE:Tryz.prog.cellsOf 5=1:=by kernel_rfl
 have hI:Tryz.prog.cellsOf 3=1:=by kernel_rfl
 obtain ⟨c0,c1,c2,rfl⟩:=list3 hs
 obtain ⟨xs,m,_,_,_,hlen,hfs⟩:=DataW.trod_struct Tryz.underlying28 h
 have hl:xs.length=3:=hlen
 obtain ⟨a0,rfl,wa0⟩:=zaz (ty:=5) (o:=0) (v:=c0) (hfs 0 _ rfl) (by omega) hE Tryz.underlying5 rfl
 obtain ⟨b1,rfl⟩:=zaW (ty:=4) (o:=1) (v:=c1) (hfs 1 _ rfl) (by omega) hB Tryz.underlying4 rfl
 obtain ⟨a2,rfl,wa2⟩:=zaz (ty:=5) (o:=2) (v:=c2) (hfs 2 _ rfl) (by omega) hE Tryz.underlying5 rfl
 exact ⟨⟨a0,b1,a2⟩,rfl,bounds_u8 wa0,bounds_u8 wa2⟩
theorem zpn {H:Type} {enc:TypeId × Value->H} {w:World} {base:Nat} {spare:Nat->Bool} {held:Bool} {n:Nat} {x:DataW H × List MemPlace} {s:List Value} (h:DataW.trod enc Tryz.prog w base spare held n 29 s=some x) (hs:s.length=6):∃ p q:Pd,s=[.int .u8 p.d,.bool p.l,.int .u8 p.s,.int .u8 q.d,.bool q.l,.int .u8 q.s]/\p.ok/\q.ok:=by
 have hV:Tryz.prog.cellsOf 28=3:=by kernel_rfl
 obtain ⟨c0,c1,c2,c3,c4,c5,rfl⟩:=list6 hs
 obtain ⟨ys,m,_,_,_,hyl,hys⟩:=DataW.trod_array Tryz.underlying29 h
 have y0:=hys 0 (by omega)
 have y1:=hys 1 (by omega)
 rw [hV,List.getElem?_eq_getElem (by omega)] at y0 y1
 obtain ⟨p,ep,hp⟩:=znb (s:=[c0,c1,c2]) y0 rfl
 obtain ⟨q,eq,hq⟩:=znb (s:=[c3,c4,c5]) y1 rfl
 simp only [List.cons.injEq,and_true] at ep eq
 obtain ⟨rfl,rfl,rfl⟩:=ep
 obtain ⟨rfl,rfl,rfl⟩:=eq
 exact ⟨p,q,rfl,hp,hq⟩
theorem znc {H:Type} {enc:TypeId × Value->H} {w:World} {base:Nat} {spare:Nat->Bool} {held:Bool} {n:Nat} {x:DataW H × List MemPlace} {s:List Value} (h:DataW.trod enc Tryz.prog w base spare held n 31 s=some x) (hs:s.length=4):∃ t:TM,s=[.int .u16 t.r,.int .u16 t.c,.bool t.on,.bool t.g]/\bd16 t.r/\bd16 t.c:=by
 have hU:Tryz.prog.cellsOf 22=1:=by kernel_rfl
 have hB:Tryz.prog.cellsOf 4=1:=by kernel_rfl
 have hE:Tryz.prog.cellsOf 5=1:=by kernel_rfl
 have hI:Tryz.prog.cellsOf 3=1:=by kernel_rfl
 obtain ⟨c0,c1,c2,c3,rfl⟩:=list4 hs
 obtain ⟨xs,m,_,_,_,hlen,hfs⟩:=DataW.trod_struct Tryz.underlying31 h
 have hl:xs.length=4:=hlen
 obtain ⟨a0,rfl,wa0⟩:=zaz (ty:=22) (o:=0) (v:=c0) (hfs 0 _ rfl) (by omega) hU Tryz.underlying22 rfl
 obtain ⟨a1,rfl,wa1⟩:=zaz (ty:=22) (o:=1) (v:=c1) (hfs 1 _ rfl) (by omega) hU Tryz.underlying22 rfl
 obtain ⟨b2,rfl⟩:=zaW (ty:=4) (o:=2) (v:=c2) (hfs 2 _ rfl) (by omega) hB Tryz.underlying4 rfl
 obtain ⟨b3,rfl⟩:=zaW (ty:=4) (o:=3) (v:=c3) (hfs 3 _ rfl) (by omega) hB Tryz.underlying4 rfl
 exact ⟨⟨a0,a1,b2,b3⟩,rfl,bounds_u16 wa0,bounds_u16 wa1⟩
theorem zpo {H:Type} {enc:TypeId × Value->H} {w:World} {base:Nat} {spare:Nat->Bool} {held:Bool} {n:Nat} {x:DataW H × List MemPlace} {s:List Value} (h:DataW.trod enc Tryz.prog w base spare held n 38 s=some x) (hs:s.length=4):∃ b:Bem,s=[.int .i64 b.l,.int .i64 b.a,.bool b.g,.int .i64 b.f]:=by
 have hU:Tryz.prog.cellsOf 22=1:=by kernel_rfl
 have hB:Tryz.prog.cellsOf 4=1:=by kernel_rfl
 have hE:Tryz.prog.cellsOf 5=1:=by kernel_rfl
 have hI:Tryz.prog.cellsOf 3=1:=by kernel_rfl
 obtain ⟨c0,c1,c2,c3,rfl⟩:=list4 hs
 obtain ⟨xs,m,_,_,_,hlen,hfs⟩:=DataW.trod_struct Tryz.underlying38 h
 have hl:xs.length=4:=hlen
 obtain ⟨a0,rfl,wa0⟩:=zaz (ty:=3) (o:=0) (v:=c0) (hfs 0 _ rfl) (by omega) hI Tryz.underlying3 rfl
 obtain ⟨a1,rfl,wa1⟩:=zaz (ty:=3) (o:=1) (v:=c1) (hfs 1 _ rfl) (by omega) hI Tryz.underlying3 rfl
 obtain ⟨b2,rfl⟩:=zaW (ty:=4) (o:=2) (v:=c2) (hfs 2 _ rfl) (by omega) hB Tryz.underlying4 rfl
 obtain ⟨a3,rfl,wa3⟩:=zaz (ty:=3) (o:=3) (v:=c3) (hfs 3 _ rfl) (by omega) hI Tryz.underlying3 rfl
 exact ⟨⟨a0,a1,b2,a3⟩,rfl⟩
theorem zpp {H:Type} {enc:TypeId × Value->H} {w:World} {base:Nat} {spare:Nat->Bool} {held:Bool} {n:Nat} {x:DataW H × List MemPlace} {s:List Value} (h:DataW.trod enc Tryz.prog w base spare held n 39 s=some x) (hs:s.length=2):∃ a b:Int,s=[.int .u8 a,.int .u8 b]/\bd8 a/\bd8 b:=by
 have hU:Tryz.prog.cellsOf 22=1:=by kernel_rfl
 have hB:Tryz.prog.cellsOf 4=1:=by kernel_rfl
 have hE:Tryz.prog.cellsOf 5=1:=by kernel_rfl
 have hI:Tryz.prog.cellsOf 3=1:=by kernel_rfl
 obtain ⟨c0,c1,rfl⟩:=list2 hs
 obtain ⟨ys,k,_,_,_,hyl,hys⟩:=DataW.trod_array Tryz.underlying39 h
 obtain ⟨a0,rfl,w0⟩:=zaz (o:=0*Tryz.prog.cellsOf 5) (v:=c0) (hys 0 (by omega)) (by omega) hE Tryz.underlying5 (by rw [hE];rfl)
 obtain ⟨a1,rfl,w1⟩:=zaz (o:=1*Tryz.prog.cellsOf 5) (v:=c1) (hys 1 (by omega)) (by omega) hE Tryz.underlying5 (by rw [hE];rfl)
 exact ⟨a0,a1,rfl,bounds_u8 w0,bounds_u8 w1⟩
theorem znd {H:Type} {enc:TypeId × Value->H} {w:World} {base:Nat} {spare:Nat->Bool} {held:Bool} {n:Nat} {x:DataW H × List MemPlace} {s:List Value} (h:DataW.trod enc Tryz.prog w base spare held n 36 s=some x) (hs:s.length=16):∃ d:Sd,s=sndL d/\d.ok:=by
 have hU:Tryz.prog.cellsOf 22=1:=by kernel_rfl
 have hB:Tryz.prog.cellsOf 4=1:=by kernel_rfl
 have hE:Tryz.prog.cellsOf 5=1:=by kernel_rfl
 have hI:Tryz.prog.cellsOf 3=1:=by kernel_rfl
 have hV:Tryz.prog.cellsOf 33=5:=by kernel_rfl
 have hR:Tryz.prog.cellsOf 34=15:=by kernel_rfl
 obtain ⟨c0,c1,c2,c3,c4,c5,c6,c7,c8,c9,c10,c11,c12,c13,c14,c15,rfl⟩:=list16 hs
 obtain ⟨xs,k,_,_,_,hlen,hfs⟩:=DataW.trod_struct Tryz.underlying36 h
 have hl2:xs.length=2:=hlen
 have g0:DataW.trod enc Tryz.prog w base spare held k 34 (([c0,c1,c2,c3,c4,c5,c6,c7,c8,c9,c10,c11,c12,c13,c14,c15].drop 0).take (Tryz.prog.cellsOf 34))=xs[0]?:=hfs 0 _ rfl
 rw [List.getElem?_eq_getElem (by omega),hR] at g0
 obtain ⟨ys,m,_,_,_,hyl,hys⟩:=DataW.trod_array zcu g0
 have y0:=hys 0 (by omega)
 have y1:=hys 1 (by omega)
 have y2:=hys 2 (by omega)
 rw [hV,List.getElem?_eq_getElem (by omega)] at y0 y1 y2
 obtain ⟨va,ea,ha⟩:=zdf (c0:=c0) (c1:=c1) (c2:=c2) (c3:=c3) (c4:=c4) y0
 obtain ⟨vb,eb,hb⟩:=zdf (c0:=c5) (c1:=c6) (c2:=c7) (c3:=c8) (c4:=c9) y1
 obtain ⟨vc,ec,hc⟩:=zdf (c0:=c10) (c1:=c11) (c2:=c12) (c3:=c13) (c4:=c14) y2
 obtain ⟨a15,rfl,w15⟩:=zaz (ty:=3) (o:=15) (v:=c15) (hfs 1 _ rfl) (by omega) hI Tryz.underlying3 rfl
 simp only [List.cons.injEq,and_true] at ea eb ec
 obtain ⟨rfl,rfl,rfl,rfl,rfl⟩:=ea
 obtain ⟨rfl,rfl,rfl,rfl,rfl⟩:=eb
 obtain ⟨rfl,rfl,rfl,rfl,rfl⟩:=ec
 exact ⟨⟨va,vb,vc,a15⟩,rfl,⟨ha,hb,hc⟩⟩
theorem zb6 {H:Type} {enc:TypeId × Value->H} {W:World} {v:Value} {n:Nat} {x:DataW H × List MemPlace} (hf:DataW.trod enc Tryz.prog W 0 (λ_=>true) true n 26 [v]=some x):∃ l,sliceAt W v l/\l.length<=maxLen:=by
 have c1:Tryz.prog.cellsOf 5=1:=by kernel_rfl
 rcases open_ints Tryz.underlying26 Tryz.underlying5 c1 hf with ⟨hc,_⟩|⟨ad,len',cap',zs,hc,_,hl,hm,hz,_,hcell,hwf⟩
 ·have e:v = .slice none 0 0:=by simpa using hc
  rw [e]
  exact ⟨[],Or.inl ⟨none,0,rfl,rfl⟩,by simp⟩
 ·have e:v = .slice (some ad) len' cap':=by simpa using hc
  rw [e]
  simp only [if_true] at hz
  by_cases h0:len'=0
  ·subst h0
   exact ⟨[],Or.inl ⟨some ad,cap',rfl,rfl⟩,by simp⟩
  ·have hs:=Pl.spot (hcell 0 (by omega))
   obtain ⟨g,o,sp⟩:=ad
   have hs':sp=none:=by
    cases sp with
    | none=>rfl
    | some x=>simp [Addr.add] at hs
   subst hs'
   refine ⟨(zs.take len').map (λz=>UInt8.ofNat z.toNat),Or.inr ⟨g,o,cap',by rw [List.length_map,List.length_take,Nat.min_eq_left (by omega)],by rw [List.length_map,List.length_take];omega,World.block_lt_of_cell? W _ (hcell 0 (by omega)),λj c hj=>?_⟩,by rw [List.length_map,List.length_take];omega⟩
   rw [List.getElem?_map] at hj
   obtain ⟨z,hz1,hz2⟩:=Option.map_eq_some_iff.1 hj
   have hjl:j<len':=by
    have:=(List.getElem?_eq_some_iff.1 hz1).1
    rw [List.length_take] at this;omega
   rw [List.getElem?_take_of_lt hjl] at hz1
   have hzj:j<zs.length:=(List.getElem?_eq_some_iff.1 hz1).1
   have hw:=bounds_u8 (hwf z (List.mem_of_getElem? hz1))
   have:=hcell j hzj
   rw [addr_add,show zs.getD j 0=z by simp [List.getD,hz1]] at this
   rw [this,<- hz2]
   rw [show (UInt8.ofNat z.toNat).toNat=z.toNat by simp;omega,show ((z.toNat:Nat):Int)=z by omega]
theorem za2 {H:Type} {enc:TypeId × Value->H} {P:Program} {w:World} {base:Nat} {spare:Nat->Bool} {held:Bool} {n i o k:Nat} {ty:TypeId} {cs:List Value} {xs:List (DataW H × List MemPlace)}
 (h:DataW.trod enc P w base spare held n ty ((cs.drop o).take (P.cellsOf ty))=xs[i]?) (hi:i<xs.length) (hc:P.cellsOf ty=k):∃ y,DataW.trod enc P w base spare held n ty ((cs.drop o).take k)=some y:=by
 rw [hc,List.getElem?_eq_getElem hi] at h
 exact ⟨_,h⟩
theorem zav {l R:List Value} {n k m:Nat} (hm:n+k=m) (h:l.drop m=R):l.drop n=(l.drop n).take k++R:=by
 subst hm
 rw [<- h,<- List.drop_drop]
 exact (List.take_append_drop k _).symm
theorem zne {l:List Value} {n k:Nat} (h:l.length<=n+k):l.drop n=(l.drop n).take k:=(List.take_of_length_le (by rw [List.length_drop];omega)).symm
theorem za1 {cs:List Value} (o:Nat) (h:o<cs.length):∃ v,cs[o]? = some v/\(cs.drop o).take 1=[v]:=⟨cs[o],List.getElem?_eq_getElem h,by rw [List.take_one,List.head?_drop,List.getElem?_eq_getElem h];rfl⟩
theorem zh1 {H:Type} {enc:TypeId × Value->H} {W:World} {base:Nat} {v:Value} {d:DataW H} {p:List MemPlace} (hv:Value.okWide Tryz.prog W .any base 41 v) (h:DataW.Trod enc Tryz.prog W 0 (λ_=>true) true 41 v d p) :
 ∃ (M:Mach) (S:Sl),v = .agg (machL M S).toArray/\M.ok/\SlAt W S M /\ ∀ j,j<5->(M.byt j).length<=maxLen:=by
 have hU:Tryz.prog.cellsOf 22=1:=by kernel_rfl
 have hB:Tryz.prog.cellsOf 4=1:=by kernel_rfl
 have hE:Tryz.prog.cellsOf 5=1:=by kernel_rfl
 have hI:Tryz.prog.cellsOf 3=1:=by kernel_rfl
 have hM:Tryz.prog.cellsOf 41=75:=by kernel_rfl
 obtain ⟨cs,rfl,hsz⟩:=okWide_struct Tryz.underlying41 hv
 obtain ⟨l⟩:=cs
 have hl:l.length=75:=hsz.trans hM
 obtain ⟨fuel,hf0⟩:=h
 have hf:DataW.trod enc Tryz.prog W 0 (λ_=>true) true fuel 41 l=some (d,p):=hf0
 obtain ⟨xs,m,_,_,_,hlen,hfs⟩:=DataW.trod_struct Tryz.underlying41 hf
 have hx:xs.length=20:=hlen
 obtain ⟨y0,g0⟩:=za2 (ty:=25) (o:=0) (k:=15) (hfs 0 _ rfl) (by omega) (by kernel_rfl)
 obtain ⟨m0,e0,k0⟩:=zna g0 (by simp [hl])
 obtain ⟨y1,g1⟩:=za2 (ty:=25) (o:=15) (k:=15) (hfs 1 _ rfl) (by omega) (by kernel_rfl)
 obtain ⟨m1,e1,k1⟩:=zna g1 (by simp [hl])
 obtain ⟨u2,r2,e2⟩:=za1 (cs:=l) 30 (by omega)
 obtain ⟨y2,g2⟩:=za2 (ty:=26) (o:=30) (k:=1) (hfs 2 _ rfl) (by omega) (by kernel_rfl)
 rw [e2] at g2
 obtain ⟨m2,k2,q2⟩:=zb6 g2
 obtain ⟨u3,r3,e3⟩:=za1 (cs:=l) 31 (by omega)
 obtain ⟨y3,g3⟩:=za2 (ty:=26) (o:=31) (k:=1) (hfs 3 _ rfl) (by omega) (by kernel_rfl)
 rw [e3] at g3
 obtain ⟨m3,k3,q3⟩:=zb6 g3
 obtain ⟨u4,r4,e4⟩:=za1 (cs:=l) 32 (by omega)
 obtain ⟨y4,g4⟩:=za2 (ty:=26) (o:=32) (k:=1) (hfs 4 _ rfl) (by omega) (by kernel_rfl)
 rw [e4] at g4
 obtain ⟨m4,k4,q4⟩:=zb6 g4
 obtain ⟨u5,r5,e5⟩:=za1 (cs:=l) 33 (by omega)
 obtain ⟨y5,g5⟩:=za2 (ty:=26) (o:=33) (k:=1) (hfs 5 _ rfl) (by omega) (by kernel_rfl)
 rw [e5] at g5
 obtain ⟨m5,k5,q5⟩:=zb6 g5
 obtain ⟨u6,r6,e6⟩:=za1 (cs:=l) 34 (by omega)
 obtain ⟨y6,g6⟩:=za2 (ty:=26) (o:=34) (k:=1) (hfs 6 _ rfl) (by omega) (by kernel_rfl)
 rw [e6] at g6
 obtain ⟨m6,k6,q6⟩:=zb6 g6
 obtain ⟨y7,g7⟩:=za2 (ty:=29) (o:=35) (k:=6) (hfs 7 _ rfl) (by omega) (by kernel_rfl)
 obtain ⟨m7,n7,e7,k7,q7⟩:=zpn g7 (by simp [hl])
 obtain ⟨y8,g8⟩:=za2 (ty:=31) (o:=41) (k:=4) (hfs 8 _ rfl) (by omega) (by kernel_rfl)
 obtain ⟨m8,e8,k8,q8⟩:=znc g8 (by simp [hl])
 obtain ⟨y9,g9⟩:=za2 (ty:=36) (o:=45) (k:=16) (hfs 9 _ rfl) (by omega) (by kernel_rfl)
 obtain ⟨m9,e9,k9⟩:=znd g9 (by simp [hl])
 obtain ⟨y10,g10⟩:=za2 (ty:=38) (o:=61) (k:=4) (hfs 10 _ rfl) (by omega) (by kernel_rfl)
 obtain ⟨m10,e10⟩:=zpo g10 (by simp [hl])
 obtain ⟨u11,r11,e11⟩:=za1 (cs:=l) 65 (by omega)
 obtain ⟨m11,rfl,w11⟩:=zaz (ty:=22) (o:=65) (hfs 11 _ rfl) (by omega) hU Tryz.underlying22 r11
 obtain ⟨u12,r12,e12⟩:=za1 (cs:=l) 66 (by omega)
 obtain ⟨m12,rfl,w12⟩:=zaz (ty:=22) (o:=66) (hfs 12 _ rfl) (by omega) hU Tryz.underlying22 r12
 obtain ⟨u13,r13,e13⟩:=za1 (cs:=l) 67 (by omega)
 obtain ⟨m13,rfl⟩:=zaW (ty:=4) (o:=67) (hfs 13 _ rfl) (by omega) hB Tryz.underlying4 r13
 obtain ⟨u14,r14,e14⟩:=za1 (cs:=l) 68 (by omega)
 obtain ⟨m14,rfl⟩:=zaW (ty:=4) (o:=68) (hfs 14 _ rfl) (by omega) hB Tryz.underlying4 r14
 obtain ⟨y15,g15⟩:=za2 (ty:=39) (o:=69) (k:=2) (hfs 15 _ rfl) (by omega) (by kernel_rfl)
 obtain ⟨m15,n15,e15,k15,q15⟩:=zpp g15 (by simp [hl])
 obtain ⟨u16,r16,e16⟩:=za1 (cs:=l) 71 (by omega)
 obtain ⟨m16,rfl⟩:=zaW (ty:=4) (o:=71) (hfs 16 _ rfl) (by omega) hB Tryz.underlying4 r16
 obtain ⟨u17,r17,e17⟩:=za1 (cs:=l) 72 (by omega)
 obtain ⟨m17,rfl,w17⟩:=zaz (ty:=3) (o:=72) (hfs 17 _ rfl) (by omega) hI Tryz.underlying3 r17
 obtain ⟨u18,r18,e18⟩:=za1 (cs:=l) 73 (by omega)
 obtain ⟨m18,rfl,w18⟩:=zaz (ty:=3) (o:=73) (hfs 18 _ rfl) (by omega) hI Tryz.underlying3 r18
 obtain ⟨u19,r19,e19⟩:=za1 (cs:=l) 74 (by omega)
 obtain ⟨m19,rfl,w19⟩:=zaz (ty:=3) (o:=74) (hfs 19 _ rfl) (by omega) hI Tryz.underlying3 r19
 have hL:l=(l.drop 0).take 15++((l.drop 15).take 15++((l.drop 30).take 1++((l.drop 31).take 1++((l.drop 32).take 1++((l.drop 33).take 1++((l.drop 34).take 1++((l.drop 35).take 6++((l.drop 41).take 4++((l.drop 45).take 16++((l.drop 61).take 4++((l.drop 65).take 1++((l.drop 66).take 1++((l.drop 67).take 1++((l.drop 68).take 1++((l.drop 69).take 2++((l.drop 71).take 1++((l.drop 72).take 1++((l.drop 73).take 1++((l.drop 74).take 1))))))))))))))))))) :=
  List.drop_zero.symm.trans (zav (n:=0) (m:=15) rfl (zav (n:=15) (m:=30) rfl (zav (n:=30) (m:=31) rfl (zav (n:=31) (m:=32) rfl (zav (n:=32) (m:=33) rfl (zav (n:=33) (m:=34) rfl (zav (n:=34) (m:=35) rfl (zav (n:=35) (m:=41) rfl (zav (n:=41) (m:=45) rfl (zav (n:=45) (m:=61) rfl (zav (n:=61) (m:=65) rfl (zav (n:=65) (m:=66) rfl (zav (n:=66) (m:=67) rfl (zav (n:=67) (m:=68) rfl (zav (n:=68) (m:=69) rfl (zav (n:=69) (m:=71) rfl (zav (n:=71) (m:=72) rfl (zav (n:=72) (m:=73) rfl (zav (n:=73) (m:=74) rfl (zne (by omega)))))))))))))))))))))
 rw [e0,e1,e2,e3,e4,e5,e6,e7,e8,e9,e10,e11,e12,e13,e14,e15,e16,e17,e18,e19] at hL
 refine ⟨⟨m0,m1,m2,m3,m4,m5,m6,m7,n7,m8,m9,m10,m11,m12,m13,m14,m15,n15,m16,m17,m18,m19⟩,⟨u2,u3,u4,u5,u6⟩,by rw [hL];rfl,⟨k0,k1,k7,q7,k8,q8,k9,bounds_u16 w11,bounds_u16 w12,k15,q15⟩,λj hj=>?_,λj hj=>?_⟩
 ·rcases five hj with rfl|rfl|rfl|rfl|rfl
  ·exact k2
  ·exact k3
  ·exact k4
  ·exact k5
  ·exact k6
 ·rcases five hj with rfl|rfl|rfl|rfl|rfl
  ·exact q2
  ·exact q3
  ·exact q4
  ·exact q5
  ·exact q6
end Go.Proofs.YtbennamieealbaaGreatDoor
