/-
  Parts of a proof, joined.
-/
import Derived.Test.YtbhpfkjfijdmaaaGreatDoorZw38
import Derived.Test.YtbhpfkjfijdmaaaGreatDoorZw34
namespace Go.Proofs.YtbhpfkjfijdmaaaGreatDoor
open Go.ChangeShapes Go.WideShapes Go.ChangeAt Go.RowKit
set_option linter.unusedVariables false
set_option maxRecDepth 100000
set_option maxHeartbeats 1600000
structure Cat where
 sb:Nat
 tb:Nat
 a1:Option Addr
 c1:Nat
 a2:Option Addr
 c2:Nat
 a3:Option Addr
 c3:Nat
 b1:Option Addr
 d1:Nat
 b2:Option Addr
 d2:Nat
 b3:Option Addr
 d3:Nat
 ln:List Lin
 sm:List UInt8
 ws:List Wt
 ln':List Lin
 sm':List UInt8
 ws':List Wt
abbrev Cat.p1 (D:Cat):Value:=.slice D.a1 D.ln.length D.c1
abbrev Cat.p2 (D:Cat):Value:=.slice D.a2 D.sm.length D.c2
abbrev Cat.p3 (D:Cat):Value:=.slice D.a3 D.ws.length D.c3
abbrev Cat.q1 (D:Cat):Value:=.slice D.b1 D.ln'.length D.d1
abbrev Cat.q2 (D:Cat):Value:=.slice D.b2 D.sm'.length D.d2
abbrev Cat.q3 (D:Cat):Value:=.slice D.b3 D.ws'.length D.d3
structure Cat.at (D : Cat) (w : World) : Prop where
 s:Bx w D.sb [D.p1,D.p2,D.p3]
 t:Bx w D.tb [D.q1,D.q2,D.q3]
 x:ShAt w D.p1 D.p2 D.p3 D.ln D.sm D.ws
 y:ShAt w D.q1 D.q2 D.q3 D.ln' D.sm' D.ws'
 l1:D.ln.length+D.ln'.length<=100000
 l2:D.sm.length+D.sm'.length<=100000
 l3:D.ws.length+D.ws'.length<=100000
theorem Cat.at.kept {D:Cat} {w w1:World} (h:D.at w) (hb:Below w.heap.size w w1):D.at w1:=⟨h.s.kept hb,h.t.kept hb,h.x.kept hb,h.y.kept hb,h.l1,h.l2,h.l3⟩
def twoAt (w:World) (u x y:Value):Prop:=∃ b,u = .slice (some ⟨b,0,none⟩) 2 2/\w.cell? ⟨b,0,none⟩=some x/\w.cell? ⟨b,1,none⟩=some y/\b < w.heap.size
structure Own3 (B : Nat) (w : World) (p q r : Value) (ln : List Lin) (sm : List UInt8) (ws : List Wt) : Prop where
 ln:w.ownsRow B 58 18 p ln.length (lcs ln)
 sm:w.ownsRow B 5 1 q sm.length (bcs sm)
 ws:w.ownsRow B 62 3 r ws.length (wcs ws)
def Cat.phi (D:Cat) (B:Nat) (i:Nat) (u:Value) (w:World):Prop :=
 match i with
 | 0=>u=pt D.sb 0
 | 1=>u=D.p1
 | 2=>u=pt D.tb 0
 | 3=>u=D.q1
 | 4=>twoAt w u D.p1 D.q1
 | 5=>w.ownsRow B 58 18 u (D.ln.length+D.ln'.length) (lcs D.ln++lcs D.ln')
 | 6=>u=pt D.sb 1
 | 7=>u=D.p2
 | 8=>u=pt D.tb 1
 | 9=>u=D.q2
 | 10=>twoAt w u D.p2 D.q2
 | 11=>w.ownsRow B 5 1 u (D.sm.length+D.sm'.length) (bcs D.sm++bcs D.sm')
 | 12=>u=pt D.sb 2
 | 13=>u=D.p3
 | 14=>u=pt D.tb 2
 | 15=>u=D.q3
 | 16=>twoAt w u D.p3 D.q3
 | 17=>w.ownsRow B 62 3 u (D.ws.length+D.ws'.length) (wcs D.ws++wcs D.ws')
 | 18=>∃ p q r,u = .agg #[p,q,r]/\Own3 B w p q r (D.ln++D.ln') (D.sm++D.sm') (D.ws++D.ws')
 | 19=>∃ b cs fr,u=pt b 0/\Bx w b [.slice none 0 0,.slice none 0 0,.slice none 0 0]/\B<=b/\w.heap[b]? = some (.cells cs 50 fr)
 | _=>True
theorem rw_kept {B z n:Nat} {t:TypeId} {v:Value} {xs:List Value} {w w1:World} (h:w.ownsRow B t z v n xs) (hb:Below w.heap.size w w1):w1.ownsRow B t z v n xs:=ows_of h (fun j e=>hb.block j (h.lt j e).2)
theorem twoAt.kept {w w1:World} {u x y:Value} (h:twoAt w u x y) (hb:Below w.heap.size w w1):twoAt w1 u x y:=by
 obtain ⟨b,h1,h2,h3,h4⟩:=h
 exact ⟨b,h1,(hb.cell (p:=⟨b,0,none⟩) h4).trans h2,(hb.cell (p:=⟨b,1,none⟩) h4).trans h3,Nat.lt_of_lt_of_le h4 hb.size⟩
theorem Own3.kept {B:Nat} {w w1:World} {p q r:Value} {ln:List Lin} {sm:List UInt8} {ws:List Wt} (h:Own3 B w p q r ln sm ws) (hb:Below w.heap.size w w1):Own3 B w1 p q r ln sm ws:=⟨rw_kept h.ln hb,rw_kept h.sm hb,rw_kept h.ws hb⟩
theorem Cat.phi_kept {D:Cat} {B i:Nat} {u:Value} {w w1:World} (h:D.phi B i u w) (hb:Below w.heap.size w w1):D.phi B i u w1:=by
 unfold Cat.phi at h ⊢
 split at h
 ·exact h
 ·exact h
 ·exact h
 ·exact h
 ·exact h.kept hb
 ·exact rw_kept h hb
 ·exact h
 ·exact h
 ·exact h
 ·exact h
 ·exact h.kept hb
 ·exact rw_kept h hb
 ·exact h
 ·exact h
 ·exact h
 ·exact h
 ·exact h.kept hb
 ·exact rw_kept h hb
 ·obtain ⟨p,q,r,h1,h2⟩:=h
  exact ⟨p,q,r,h1,h2.kept hb⟩
 ·obtain ⟨b,cs,fr,h1,h2,h3,h4⟩:=h
  exact ⟨b,cs,fr,h1,h2.kept hb,h3,(hb.block b h2.z).trans h4⟩
 ·trivial
/-! ### single operations, over any frame -/
section
variable {P : Program} {ops : Array Oper} {Q : Exit -> Act -> World -> Prop} {o : Oper} {a : Act} {w w' : World} {v r : Value} {K : Act -> World -> Prop} {ρ : Operand -> Value}
theorem op_val (hg:o.guard=none) (h:(execOp a.eval o).run P w = .ok (.value v) w') (hk:K (a.put o.dst v) w'):if Region.wanted o (yielded ops a.tmps)=true then Oper.wp P o a w K Q else K (a.put o.dst undef) w:=by
 rw [if_pos (by simp [Region.wanted,hg])]
 unfold Oper.wp
 rw [h]
 exact hk
theorem x_field {s:TypeId} {x:Operand} {f:Nat} (ho:o.op = .fieldAddr s x f) (hr:(Instr.fieldAt s (ρ x) f).run P w = .ok r w'):(execOp ρ o).run P w = .ok (.value r) w':=by
 unfold execOp
 simp only [ho,Sem.run_bind,hr,Result.andThen_ok,Sem.run_pure]
theorem x_load {t:TypeId} {x:Operand} (ho:o.op = .load t x) (hr:(Instr.loadAt t (ρ x)).run P w = .ok r w'):(execOp ρ o).run P w = .ok (.value r) w':=by
 unfold execOp
 simp only [ho,Sem.run_bind,hr,Result.andThen_ok,Sem.run_pure]
theorem x_bslice {t:TypeId} {n:Nat} {ps:Array (Nat × Operand)} (ho:o.op = .buildSlice t n ps) (hr:(Instr.buildSlice t n (ps.map fun (i,x)=>(i,ρ x))).run P w = .ok r w'):(execOp ρ o).run P w = .ok (.value r) w':=by
 unfold execOp
 simp only [ho,Sem.run_bind,hr,Result.andThen_ok,Sem.run_pure]
theorem x_build {t:TypeId} {ps:Array (Nat × Operand)} (ho:o.op = .build t ps) (hr:(Instr.build t (ps.map fun (i,x)=>(i,ρ x))).run P w = .ok r w'):(execOp ρ o).run P w = .ok (.value r) w':=by
 unfold execOp
 simp only [ho,Sem.run_bind,hr,Result.andThen_ok,Sem.run_pure]
theorem x_alloc {t:TypeId} (ho:o.op = .alloc t) (hr:(Instr.alloc t true (.tuple #[])).run P w = .ok r w'):(execOp ρ o).run P w = .ok (.value r) w':=by
 unfold execOp
 simp only [ho,Sem.run_bind,hr,Result.andThen_ok,Sem.run_pure]
theorem op_call {f:Nat} {x:Operand} {ts:Array TypeId} {R:Value->World->Prop} (hg:o.guard=none) (ho:o.op = .call { callee:=.value (.func f),args:=#[x],argTypes:=ts }) (hx:a.eval x=v) (hcf:∀ (xs:Array Value) (w:World),(callFunc f xs).run P w = .ok (.enter f xs) w)
 (hc:Calls P f #[v] w fun e w'=>∃ u,e = .returned u/\R u w') (hk:∀ u w',R u w'->K (a.put o.dst u) w'):if Region.wanted o (yielded ops a.tmps)=true then Oper.wp P o a w K Q else K (a.put o.dst undef) w:=by
 rw [if_pos (by simp [Region.wanted,hg])]
 unfold Oper.wp
 have he:(execOp a.eval o).run P w = .ok (.enter f #[v]) w:=by
  have hf:a.eval (.func f) = .func (.func f) #[] #[]:=rfl
  unfold execOp
  simp [ho,resolve,invoke,hx,hf,hcf,Deferred.ofValue]
 rw [he,Oper.upon_enter]
 refine hc.mono ?_
 rintro e w' ⟨u,rfl,hR⟩
 exact hk u w' hR
end
theorem fld3_0 (b:Nat) (w:World):(Instr.fieldAt 50 (pt b 0) 0).run Tryz.prog w = .ok (pt b 0) w:=by kernel_rfl
theorem fld3_1 (b:Nat) (w:World):(Instr.fieldAt 50 (pt b 0) 1).run Tryz.prog w = .ok (pt b 1) w:=by kernel_rfl
theorem fld3_2 (b:Nat) (w:World):(Instr.fieldAt 50 (pt b 0) 2).run Tryz.prog w = .ok (pt b 2) w:=by kernel_rfl
theorem fld3 (b k:Nat) (hk:k < 3) (w:World):(Instr.fieldAt 50 (pt b 0) k).run Tryz.prog w = .ok (pt b k) w:=by
 have h:k=0 \/ k=1 \/ k=2:=by omega
 rcases h with rfl | rfl | rfl
 ·exact fld3_0 b w
 ·exact fld3_1 b w
 ·exact fld3_2 b w
theorem ld1 {w:World} {b k n c:Nat} {a:Option Addr} {t:TypeId} (ht:∀ w,(isAgg t).run Tryz.prog w = .ok false w) (h:w.cell? ⟨b,k,none⟩=some (.slice a n c)):(Instr.loadAt t (pt b k)).run Tryz.prog w = .ok (.slice a n c) w:=by
 go_simp
theorem bsLn (a a':Option Addr) (n n' c c':Nat) (w:World):(Instr.buildSlice 93 2 #[(0,.slice a n c),(1,.slice a' n' c')]).run Tryz.prog w = .ok (.slice (some ⟨w.heap.size,0,none⟩) 2 2) (w.alloc (.cells #[.slice a n c,.slice a' n' c'] 47)):=by kernel_rfl
theorem bsBy (a a':Option Addr) (n n' c c':Nat) (w:World):(Instr.buildSlice 95 2 #[(0,.slice a n c),(1,.slice a' n' c')]).run Tryz.prog w = .ok (.slice (some ⟨w.heap.size,0,none⟩) 2 2) (w.alloc (.cells #[.slice a n c,.slice a' n' c'] 26)):=by kernel_rfl
theorem bsWr (a a':Option Addr) (n n' c c':Nat) (w:World):(Instr.buildSlice 97 2 #[(0,.slice a n c),(1,.slice a' n' c')]).run Tryz.prog w = .ok (.slice (some ⟨w.heap.size,0,none⟩) 2 2) (w.alloc (.cells #[.slice a n c,.slice a' n' c'] 48)):=by kernel_rfl
theorem bdSh (a a' a'':Option Addr) (n n' n'' c c' c'':Nat) (w:World):(Instr.build 50 #[(0,.slice a n c),(1,.slice a' n' c'),(2,.slice a'' n'' c'')]).run Tryz.prog w = .ok (.agg #[.slice a n c,.slice a' n' c',.slice a'' n'' c'']) w:=by kernel_rfl
theorem alSh (w:World):(Instr.alloc 50 true (.tuple #[])).run Tryz.prog w = .ok (pt w.heap.size 0) (w.alloc (.cells #[.slice none 0 0,.slice none 0 0,.slice none 0 0] 50)):=by kernel_rfl
def cPt:List Bool->Code->Code
 | [],c=>c
 | b :: l,.seq x y=>cPt l (if b then y else x)
 | _ :: _,c=>c
noncomputable def catOps : Array Oper := match cPt [true, true, true, true, true, true, true, false] (Tryz.f3.body.getD .skip) with | .region _ ops _ => ops | _ => #[]
def needs (o:Oper) (l:List Nat):Bool:=l.all fun j=>o.after.toList.any fun e=>Region.binds .any e && e.on == j
theorem needs_at {o:Oper} {l:List Nat} {listed:Array Bool} (h:needs o l=true) (hall:∀ e ∈ o.after,Region.binds .any e=true->listed.getD e.on false=true):∀ j ∈ l,listed.getD j false=true:=fun j hj=>by
 have h1:=List.all_eq_true.1 h j hj
 obtain ⟨e,he,h2⟩:=List.any_eq_true.1 h1
 simp only [Bool.and_eq_true,beq_iff_eq] at h2
 have:=hall e (by simpa using he) h2.1
 rwa [h2.2] at this
def row (o:Oper) (l:List Nat):Option Nat × Option (Nat × Bool) × Op × Bool:=(o.dst,o.guard,o.op,needs o l)
theorem row_get {i:Nat} {o:Oper} {l:List Nat} {d:Option Nat} {p:Op} (ho:catOps[i]? = some o) (h:(catOps[i]?).map (fun o=>row o l)=some (d,none,p,true)):o.dst=d/\o.guard=none/\o.op=p/\needs o l=true:=by
 rw [ho] at h
 simp only [Option.map_some,Option.some.injEq,row,Prod.mk.injEq] at h
 exact h
theorem cat_size:catOps.size=21:=by kernel_rfl
theorem cr0:(catOps[0]?).map (fun o=>row o [])=some (some 102,none,.fieldAddr 50 (.tmp 10) 0,true):=by kernel_rfl
theorem cr1:(catOps[1]?).map (fun o=>row o [0])=some (some 103,none,.load 47 (.tmp 102),true):=by kernel_rfl
theorem cr2:(catOps[2]?).map (fun o=>row o [])=some (some 104,none,.fieldAddr 50 (.tmp 16) 0,true):=by kernel_rfl
theorem cr3:(catOps[3]?).map (fun o=>row o [2])=some (some 105,none,.load 47 (.tmp 104),true):=by kernel_rfl
theorem cr4:(catOps[4]?).map (fun o=>row o [1,3])=some (some 106,none,.buildSlice 93 2 #[(0,.tmp 103),(1,.tmp 105)],true):=by kernel_rfl
theorem cr5:(catOps[5]?).map (fun o=>row o [4])=some (some 107,none,.call { callee:=.value (.func 11),args:=#[.tmp 106],argTypes:=#[93] },true):=by kernel_rfl
theorem cr6:(catOps[6]?).map (fun o=>row o [])=some (some 108,none,.fieldAddr 50 (.tmp 10) 1,true):=by kernel_rfl
theorem cr7:(catOps[7]?).map (fun o=>row o [6])=some (some 109,none,.load 26 (.tmp 108),true):=by kernel_rfl
theorem cr8:(catOps[8]?).map (fun o=>row o [])=some (some 110,none,.fieldAddr 50 (.tmp 16) 1,true):=by kernel_rfl
theorem cr9:(catOps[9]?).map (fun o=>row o [8])=some (some 111,none,.load 26 (.tmp 110),true):=by kernel_rfl
theorem cr10:(catOps[10]?).map (fun o=>row o [7,9])=some (some 112,none,.buildSlice 95 2 #[(0,.tmp 109),(1,.tmp 111)],true):=by kernel_rfl
theorem cr11:(catOps[11]?).map (fun o=>row o [10])=some (some 113,none,.call { callee:=.value (.func 12),args:=#[.tmp 112],argTypes:=#[95] },true):=by kernel_rfl
theorem cr12:(catOps[12]?).map (fun o=>row o [])=some (some 114,none,.fieldAddr 50 (.tmp 10) 2,true):=by kernel_rfl
theorem cr13:(catOps[13]?).map (fun o=>row o [12])=some (some 115,none,.load 48 (.tmp 114),true):=by kernel_rfl
theorem cr14:(catOps[14]?).map (fun o=>row o [])=some (some 116,none,.fieldAddr 50 (.tmp 16) 2,true):=by kernel_rfl
theorem cr15:(catOps[15]?).map (fun o=>row o [14])=some (some 117,none,.load 48 (.tmp 116),true):=by kernel_rfl
theorem cr16:(catOps[16]?).map (fun o=>row o [13,15])=some (some 118,none,.buildSlice 97 2 #[(0,.tmp 115),(1,.tmp 117)],true):=by kernel_rfl
theorem cr17:(catOps[17]?).map (fun o=>row o [16])=some (some 119,none,.call { callee:=.value (.func 13),args:=#[.tmp 118],argTypes:=#[97] },true):=by kernel_rfl
theorem cr18:(catOps[18]?).map (fun o=>row o [5,11,17])=some (some 120,none,.build 50 #[(0,.tmp 107),(1,.tmp 113),(2,.tmp 119)],true):=by kernel_rfl
theorem cr19:(catOps[19]?).map (fun o=>row o [])=some (some 21,none,.alloc 50,true):=by kernel_rfl
theorem cr20:(catOps[20]?).map (fun o=>row o (List.range 20))=some (none,none,.store 50 (.tmp 21) (.tmp 120),true):=by kernel_rfl
def dstOf (i:Nat):Nat:=if i=19 then 21 else 102+i
theorem dst_ne {i j:Nat} (h:i ≠ j) (hi:i < 20) (hj:j < 20):dstOf i ≠ dstOf j:=by
 unfold dstOf
 split <;> split <;> omega
theorem dst_out {i d:Nat} (hi:i < 20) (hd:d < 102 \/ 120 < d) (h21:d ≠ 21):d ≠ dstOf i:=by
 unfold dstOf
 split <;> omega
theorem dst_lt {i:Nat} (hi:i < 20):dstOf i < 141:=by
 unfold dstOf
 split <;> omega
structure CInv (D : Cat) (w0 : World) (u : Nat -> Value) (listed : Array Bool) (a : Act) (w : World) : Prop where
 sz:a.tmps.size=141
 df:a.defers=[]
 low:Below w0.heap.size w0 w
 keep:∀ d,(d < 102 \/ 120 < d)->d ≠ 21->sv a d=u d
 phi:∀ i,i < 20->listed.getD i false=true->D.phi w0.heap.size i (sv a (dstOf i)) w
structure CEnd (D : Cat) (w0 : World) (u : Nat -> Value) (a : Act) (w : World) : Prop where
 sz:a.tmps.size=141
 df:a.defers=[]
 low:Below w0.heap.size w0 w
 keep:∀ d,(d < 102 \/ 120 < d)->d ≠ 21->sv a d=u d
 out:∃ b p q r,sv a 21=pt b 0/\Bx w b [p,q,r]/\Own3 w0.heap.size w p q r (D.ln++D.ln') (D.sm++D.sm') (D.ws++D.ws')
theorem getD_set {l:Array Bool} {i j:Nat} (h:j ≠ i):(l.setIfInBounds i true).getD j false=l.getD j false:=by
 rw [Array.getD_eq_getD_getElem?,Array.getD_eq_getD_getElem?,Array.getElem?_setIfInBounds_ne (by omega)]
theorem CInv.go {D:Cat} {w0:World} {u:Nat->Value} {listed:Array Bool} {a:Act} {w w':World} {i:Nat} {v:Value} (h:CInv D w0 u listed a w) (hi:i < 20) (hb:Below w.heap.size w w') (hv:D.phi w0.heap.size i v w'):CInv D w0 u (listed.setIfInBounds i true) (a.put (some (dstOf i)) v) w':=by
 have hlt:dstOf i < a.tmps.size:=by rw [h.sz];exact dst_lt hi
 refine ⟨by rw [size_put];exact h.sz,h.df,stp h.low hb,fun d hd h21=>by rw [sv_ne (dst_out hi hd h21)];exact h.keep d hd h21,fun j hj hl=>?_⟩
 by_cases hji:j=i
 ·subst hji
  rw [sv_put hlt]
  exact hv
 ·rw [getD_set hji] at hl
  rw [sv_ne (dst_ne hji hj hi)]
  exact Cat.phi_kept (h.phi j hj hl) hb
noncomputable def early : Bool := (List.range 21).all fun i => match catOps[i]? with | some o => o.after.toList.all (fun e => !Region.binds .any e || decide (e.on < i)) | none => false
theorem early_t:early=true:=by kernel_rfl
theorem getD_two {l:Array Bool} {i:Nat} (h:i < l.size) (ht:l.getD i true=true):l.getD i false=true:=by
 rw [Array.getD_eq_getD_getElem?,Array.getElem?_eq_getElem h] at ht ⊢
 exact ht
theorem ready_all {listed:Array Bool} (hs:listed.size=catOps.size) (hr:Region.ready .any catOps listed=[]):∀ i,i < 21->listed.getD i true=true:=by
 intro i
 induction i using Nat.strongRecOn with
 | ind i ih =>
  intro hi
  cases h:listed.getD i true with
  | true=>rfl
  | false =>
   exfalso
   have h1:=List.all_eq_true.1 early_t i (List.mem_range.2 hi)
   cases ho:catOps[i]? with
   | none=>simp only [ho] at h1;cases h1
   | some o =>
    simp only [ho] at h1
    have hm:i ∈ Region.ready .any catOps listed:=mem_ready.2 ⟨h,o,ho,fun e he hb=>by
     have h2:=List.all_eq_true.1 h1 e (by simpa using he)
     rw [hb] at h2
     have h3:e.on < i:=by simpa using h2
     exact getD_two (by rw [hs,cat_size];omega) (ih e.on h3 (by omega))⟩
    rw [hr] at hm
    cases hm
theorem getD_set' {l:Array Bool} {i j:Nat} (h:j ≠ i):(l.setIfInBounds i true).getD j true=l.getD j true:=by
 rw [Array.getD_eq_getD_getElem?,Array.getD_eq_getD_getElem?,Array.getElem?_setIfInBounds_ne (by omega)]
def CIn (D:Cat) (w0:World) (u:Nat->Value) (listed:Array Bool) (a:Act) (w:World):Prop:=(CInv D w0 u listed a w/\listed.getD 20 true=false) \/ (∀ j,j < 21->listed.getD j false=true)/\CEnd D w0 u a w
theorem rw16_one (f:Nat->Nat):∀ u ∈ row16 f,u.oneCell'=true:=fun u hu=>by
 obtain ⟨x,_,rfl⟩:=List.mem_map.1 hu
 rfl
theorem lcs_one:∀ l:List Lin,∀ u ∈ lcs l,u.oneCell'=true
 | [],u,h=>by cases h
 | x :: l,u,h=>by
  simp only [lcs,List.mem_cons,List.mem_append] at h
  rcases h with rfl | rfl | h | h
  ·rfl
  ·rfl
  ·exact rw16_one _ u h
  ·exact lcs_one l u h
theorem wcs_one:∀ l:List Wt,∀ u ∈ wcs l,u.oneCell'=true
 | [],u,h=>by cases h
 | x :: l,u,h=>by
  simp only [wcs,List.mem_cons] at h
  rcases h with rfl | rfl | rfl | h
  ·rfl
  ·rfl
  ·rfl
  ·exact wcs_one l u h
theorem bcs_one (l:List UInt8):∀ u ∈ bcs l,u.oneCell'=true:=fun u hu=>by
 simp only [bcs,List.mem_map] at hu
 obtain ⟨c,_,rfl⟩:=hu
 rfl
theorem own_base {B B' z n:Nat} {t:TypeId} {v:Value} {xs:List Value} {w:World} (h:w.ownsRow B t z v n xs) (hB:B'<=B):w.ownsRow B' t z v n xs:=by
 refine ⟨h.1,?_⟩
 rcases h.2 with h1 | ⟨g,cap,cur,h1,h2,h3⟩
 ·exact Or.inl h1
 ·exact Or.inr ⟨g,cap,cur,h1,Nat.le_trans hB h2,h3⟩
theorem row_apart {B z n:Nat} {t t':TypeId} {v:Value} {xs:List Value} {w:World} {b:Nat} {cs:Array Value} {fr:Nat × Nat} (h:w.ownsRow B t z v n xs) (hb:w.heap[b]? = some (.cells cs t' fr)) (ht:t ≠ t') (vs:List Value):(w.setCells b 0 vs).ownsRow B t z v n xs :=
 ows_of h (fun j e=>heap_sets_far (fun e2=>by
  obtain ⟨_,_,cs',h3⟩:=row_at h j e
  rw [e2,hb] at h3
  cases h3
  exact ht rfl) _ _ _)
theorem cat_region (D:Cat) (w0:World) (u:Nat->Value) (hD:D.at w0) (hu10:u 10=pt D.sb 0) (hu16:u 16=pt D.tb 0) {Q:Exit->Act->World->Prop} {a:Act} (hsz:a.tmps.size=141) (hdf:a.defers=[]) (hk:∀ d,(d < 102 \/ 120 < d)->d ≠ 21->sv a d=u d)
 (hend:∀ a' w',CEnd D w0 u a' w'->Q .normal a' w') {id:Nat}:(Code.region id catOps true).wp Tryz.prog Q a w0:=by
 refine wp_region_any (by kernel_rfl) ?_
 refine wpAnyI (CIn D w0 u) ?_ ?_ _ _ _ _ (by simp) (by simp) (Or.inl ⟨⟨hsz,hdf,(st0 w0).drew,hk,fun i hi hl=>by rw [cat_size,Array.getD_eq_getD_getElem?,Array.getElem?_replicate,if_pos (by omega)] at hl;cases hl⟩,by rw [cat_size];rfl⟩)
 rotate_left 1
 ·intro listed a' w' hI hs hr
  rcases hI with ⟨_,h20⟩ | ⟨_,hI⟩
  ·rw [ready_all hs hr 20 (by omega)] at h20
   cases h20
  ·exact hend a' w' hI
 intro listed a w i o hI hs ho hun hall K hK
 have hi:i < 21:=by rw [<- cat_size];exact (Array.getElem?_eq_some_iff.1 ho).1
 rcases hI with ⟨hI,h20⟩ | ⟨hI,_⟩
 rotate_left 1
 ·have:=hI i hi
  exfalso
  rw [Array.getD_eq_getD_getElem?] at this hun
  cases h:listed[i]? with
  | none=>rw [h] at this;cases this
  | some b=>rw [h] at this hun;simp at this hun;rw [this] at hun;cases hun
 have hc:i=0 \/ i=1 \/ i=2 \/ i=3 \/ i=4 \/ i=5 \/ i=6 \/ i=7 \/ i=8 \/ i=9 \/ i=10 \/ i=11 \/ i=12 \/ i=13 \/ i=14 \/ i=15 \/ i=16 \/ i=17 \/ i=18 \/ i=19 \/ i=20:=by omega
 rcases hc with rfl | rfl | rfl | rfl | rfl | rfl | rfl | rfl | rfl | rfl | rfl | rfl | rfl | rfl | rfl | rfl | rfl | rfl | rfl | rfl | rfl
 ·obtain ⟨e1,e2,e3,e4⟩:=row_get ho cr0
  have hd:=needs_at e4 hall
  have g:=hI.keep 10 (by omega) (by omega)
  refine op_val e2 (x_field e3 (r:=pt D.sb 0) (w':=w) (by have g':a.eval (.tmp 10)=pt D.sb 0:=g.trans hu10;rw [g'];exact fld3 _ 0 (by omega) w)) (hK _ _ (Or.inl ⟨?_,(getD_set' (by omega)).trans h20⟩))
  rw [e1]
  exact hI.go (by omega) (st0 w) rfl
 ·obtain ⟨e1,e2,e3,e4⟩:=row_get ho cr1
  have hd:=needs_at e4 hall
  have f0:=hI.phi 0 (by omega) (hd 0 (by simp))
  have g:a.eval (.tmp 102)=pt D.sb 0:=f0
  refine op_val e2 (x_load e3 (r:=D.p1) (w':=w) (by rw [g];exact ld1 Tryz.isAgg47 ((hD.kept hI.low).s.at 0 _ rfl))) (hK _ _ (Or.inl ⟨?_,(getD_set' (by omega)).trans h20⟩))
  rw [e1]
  exact hI.go (by omega) (st0 w) rfl
 ·obtain ⟨e1,e2,e3,e4⟩:=row_get ho cr2
  have hd:=needs_at e4 hall
  have g:=hI.keep 16 (by omega) (by omega)
  refine op_val e2 (x_field e3 (r:=pt D.tb 0) (w':=w) (by have g':a.eval (.tmp 16)=pt D.tb 0:=g.trans hu16;rw [g'];exact fld3 _ 0 (by omega) w)) (hK _ _ (Or.inl ⟨?_,(getD_set' (by omega)).trans h20⟩))
  rw [e1]
  exact hI.go (by omega) (st0 w) rfl
 ·obtain ⟨e1,e2,e3,e4⟩:=row_get ho cr3
  have hd:=needs_at e4 hall
  have f2:=hI.phi 2 (by omega) (hd 2 (by simp))
  have g:a.eval (.tmp 104)=pt D.tb 0:=f2
  refine op_val e2 (x_load e3 (r:=D.q1) (w':=w) (by rw [g];exact ld1 Tryz.isAgg47 ((hD.kept hI.low).t.at 0 _ rfl))) (hK _ _ (Or.inl ⟨?_,(getD_set' (by omega)).trans h20⟩))
  rw [e1]
  exact hI.go (by omega) (st0 w) rfl
 ·obtain ⟨e1,e2,e3,e4⟩:=row_get ho cr4
  have hd:=needs_at e4 hall
  have f1:=hI.phi 1 (by omega) (hd 1 (by simp))
  have f3:=hI.phi 3 (by omega) (hd 3 (by simp))
  have g1:a.eval (.tmp 103)=D.p1:=f1
  have g2:a.eval (.tmp 105)=D.q1:=f3
  refine op_val e2 (x_bslice e3 (r:=.slice (some ⟨w.heap.size,0,none⟩) 2 2) (by simp only [List.map_toArray,List.map_cons,List.map_nil,g1,g2];exact bsLn _ _ _ _ _ _ w)) (hK _ _ (Or.inl ⟨?_,(getD_set' (by omega)).trans h20⟩))
  rw [e1]
  exact hI.go (by omega) (stA (st0 w) _) ⟨w.heap.size,rfl,Pl.new _ _ _ _ rfl,Pl.new _ _ _ _ rfl,by simp⟩
 ·obtain ⟨e1,e2,e3,e4⟩:=row_get ho cr5
  have hd:=needs_at e4 hall
  have f4:=hI.phi 4 (by omega) (hd 4 (by simp))
  obtain ⟨b,q1,q2,q3,q4⟩:=f4
  have hx:=hD.kept hI.low
  refine op_call e2 e3 (R:=fun v w'=>D.phi w0.heap.size 5 v w'/\Below w.heap.size w w') q1 (fun _ _=>rfl) ((catLn b _ _ _ _ _ _ w (hx.x.ln) (hx.y.ln) (lcs_one _) (lcs_one _) q2 q3 hx.l1).mono ?_) (fun v w' h=>hK _ _ (Or.inl ⟨?_,(getD_set' (by omega)).trans h20⟩))
  ·rintro e w' ⟨v,rfl,h1,h2⟩
   exact ⟨v,rfl,own_base h1 hI.low.size,h2⟩
  ·rw [e1]
   exact hI.go (by omega) h.2 h.1
 ·obtain ⟨e1,e2,e3,e4⟩:=row_get ho cr6
  have hd:=needs_at e4 hall
  have g:=hI.keep 10 (by omega) (by omega)
  refine op_val e2 (x_field e3 (r:=pt D.sb 1) (w':=w) (by have g':a.eval (.tmp 10)=pt D.sb 0:=g.trans hu10;rw [g'];exact fld3 _ 1 (by omega) w)) (hK _ _ (Or.inl ⟨?_,(getD_set' (by omega)).trans h20⟩))
  rw [e1]
  exact hI.go (by omega) (st0 w) rfl
 ·obtain ⟨e1,e2,e3,e4⟩:=row_get ho cr7
  have hd:=needs_at e4 hall
  have f6:=hI.phi 6 (by omega) (hd 6 (by simp))
  have g:a.eval (.tmp 108)=pt D.sb 1:=f6
  refine op_val e2 (x_load e3 (r:=D.p2) (w':=w) (by rw [g];exact ld1 Tryz.isAgg26 ((hD.kept hI.low).s.at 1 _ rfl))) (hK _ _ (Or.inl ⟨?_,(getD_set' (by omega)).trans h20⟩))
  rw [e1]
  exact hI.go (by omega) (st0 w) rfl
 ·obtain ⟨e1,e2,e3,e4⟩:=row_get ho cr8
  have hd:=needs_at e4 hall
  have g:=hI.keep 16 (by omega) (by omega)
  refine op_val e2 (x_field e3 (r:=pt D.tb 1) (w':=w) (by have g':a.eval (.tmp 16)=pt D.tb 0:=g.trans hu16;rw [g'];exact fld3 _ 1 (by omega) w)) (hK _ _ (Or.inl ⟨?_,(getD_set' (by omega)).trans h20⟩))
  rw [e1]
  exact hI.go (by omega) (st0 w) rfl
 ·obtain ⟨e1,e2,e3,e4⟩:=row_get ho cr9
  have hd:=needs_at e4 hall
  have f8:=hI.phi 8 (by omega) (hd 8 (by simp))
  have g:a.eval (.tmp 110)=pt D.tb 1:=f8
  refine op_val e2 (x_load e3 (r:=D.q2) (w':=w) (by rw [g];exact ld1 Tryz.isAgg26 ((hD.kept hI.low).t.at 1 _ rfl))) (hK _ _ (Or.inl ⟨?_,(getD_set' (by omega)).trans h20⟩))
  rw [e1]
  exact hI.go (by omega) (st0 w) rfl
 ·obtain ⟨e1,e2,e3,e4⟩:=row_get ho cr10
  have hd:=needs_at e4 hall
  have f7:=hI.phi 7 (by omega) (hd 7 (by simp))
  have f9:=hI.phi 9 (by omega) (hd 9 (by simp))
  have g1:a.eval (.tmp 109)=D.p2:=f7
  have g2:a.eval (.tmp 111)=D.q2:=f9
  refine op_val e2 (x_bslice e3 (r:=.slice (some ⟨w.heap.size,0,none⟩) 2 2) (by simp only [List.map_toArray,List.map_cons,List.map_nil,g1,g2];exact bsBy _ _ _ _ _ _ w)) (hK _ _ (Or.inl ⟨?_,(getD_set' (by omega)).trans h20⟩))
  rw [e1]
  exact hI.go (by omega) (stA (st0 w) _) ⟨w.heap.size,rfl,Pl.new _ _ _ _ rfl,Pl.new _ _ _ _ rfl,by simp⟩
 ·obtain ⟨e1,e2,e3,e4⟩:=row_get ho cr11
  have hd:=needs_at e4 hall
  have f10:=hI.phi 10 (by omega) (hd 10 (by simp))
  obtain ⟨b,q1,q2,q3,q4⟩:=f10
  have hx:=hD.kept hI.low
  refine op_call e2 e3 (R:=fun v w'=>D.phi w0.heap.size 11 v w'/\Below w.heap.size w w') q1 (fun _ _=>rfl) ((catBy b _ _ _ _ _ _ w (slice_row hx.x.sm) (slice_row hx.y.sm) (bcs_one _) (bcs_one _) q2 q3 hx.l2).mono ?_) (fun v w' h=>hK _ _ (Or.inl ⟨?_,(getD_set' (by omega)).trans h20⟩))
  ·rintro e w' ⟨v,rfl,h1,h2⟩
   exact ⟨v,rfl,own_base h1 hI.low.size,h2⟩
  ·rw [e1]
   exact hI.go (by omega) h.2 h.1
 ·obtain ⟨e1,e2,e3,e4⟩:=row_get ho cr12
  have hd:=needs_at e4 hall
  have g:=hI.keep 10 (by omega) (by omega)
  refine op_val e2 (x_field e3 (r:=pt D.sb 2) (w':=w) (by have g':a.eval (.tmp 10)=pt D.sb 0:=g.trans hu10;rw [g'];exact fld3 _ 2 (by omega) w)) (hK _ _ (Or.inl ⟨?_,(getD_set' (by omega)).trans h20⟩))
  rw [e1]
  exact hI.go (by omega) (st0 w) rfl
 ·obtain ⟨e1,e2,e3,e4⟩:=row_get ho cr13
  have hd:=needs_at e4 hall
  have f12:=hI.phi 12 (by omega) (hd 12 (by simp))
  have g:a.eval (.tmp 114)=pt D.sb 2:=f12
  refine op_val e2 (x_load e3 (r:=D.p3) (w':=w) (by rw [g];exact ld1 Tryz.isAgg48 ((hD.kept hI.low).s.at 2 _ rfl))) (hK _ _ (Or.inl ⟨?_,(getD_set' (by omega)).trans h20⟩))
  rw [e1]
  exact hI.go (by omega) (st0 w) rfl
 ·obtain ⟨e1,e2,e3,e4⟩:=row_get ho cr14
  have hd:=needs_at e4 hall
  have g:=hI.keep 16 (by omega) (by omega)
  refine op_val e2 (x_field e3 (r:=pt D.tb 2) (w':=w) (by have g':a.eval (.tmp 16)=pt D.tb 0:=g.trans hu16;rw [g'];exact fld3 _ 2 (by omega) w)) (hK _ _ (Or.inl ⟨?_,(getD_set' (by omega)).trans h20⟩))
  rw [e1]
  exact hI.go (by omega) (st0 w) rfl
 ·obtain ⟨e1,e2,e3,e4⟩:=row_get ho cr15
  have hd:=needs_at e4 hall
  have f14:=hI.phi 14 (by omega) (hd 14 (by simp))
  have g:a.eval (.tmp 116)=pt D.tb 2:=f14
  refine op_val e2 (x_load e3 (r:=D.q3) (w':=w) (by rw [g];exact ld1 Tryz.isAgg48 ((hD.kept hI.low).t.at 2 _ rfl))) (hK _ _ (Or.inl ⟨?_,(getD_set' (by omega)).trans h20⟩))
  rw [e1]
  exact hI.go (by omega) (st0 w) rfl
 ·obtain ⟨e1,e2,e3,e4⟩:=row_get ho cr16
  have hd:=needs_at e4 hall
  have f13:=hI.phi 13 (by omega) (hd 13 (by simp))
  have f15:=hI.phi 15 (by omega) (hd 15 (by simp))
  have g1:a.eval (.tmp 115)=D.p3:=f13
  have g2:a.eval (.tmp 117)=D.q3:=f15
  refine op_val e2 (x_bslice e3 (r:=.slice (some ⟨w.heap.size,0,none⟩) 2 2) (by simp only [List.map_toArray,List.map_cons,List.map_nil,g1,g2];exact bsWr _ _ _ _ _ _ w)) (hK _ _ (Or.inl ⟨?_,(getD_set' (by omega)).trans h20⟩))
  rw [e1]
  exact hI.go (by omega) (stA (st0 w) _) ⟨w.heap.size,rfl,Pl.new _ _ _ _ rfl,Pl.new _ _ _ _ rfl,by simp⟩
 ·obtain ⟨e1,e2,e3,e4⟩:=row_get ho cr17
  have hd:=needs_at e4 hall
  have f16:=hI.phi 16 (by omega) (hd 16 (by simp))
  obtain ⟨b,q1,q2,q3,q4⟩:=f16
  have hx:=hD.kept hI.low
  refine op_call e2 e3 (R:=fun v w'=>D.phi w0.heap.size 17 v w'/\Below w.heap.size w w') q1 (fun _ _=>rfl) ((catWr b _ _ _ _ _ _ w (hx.x.ws) (hx.y.ws) (wcs_one _) (wcs_one _) q2 q3 hx.l3).mono ?_) (fun v w' h=>hK _ _ (Or.inl ⟨?_,(getD_set' (by omega)).trans h20⟩))
  ·rintro e w' ⟨v,rfl,h1,h2⟩
   exact ⟨v,rfl,own_base h1 hI.low.size,h2⟩
  ·rw [e1]
   exact hI.go (by omega) h.2 h.1
 ·obtain ⟨e1,e2,e3,e4⟩:=row_get ho cr18
  have hd:=needs_at e4 hall
  have f5:=hI.phi 5 (by omega) (hd 5 (by simp))
  have f11:=hI.phi 11 (by omega) (hd 11 (by simp))
  have f17:=hI.phi 17 (by omega) (hd 17 (by simp))
  obtain ⟨x1,y1,z1⟩:=row_len2 f5
  obtain ⟨x2,y2,z2⟩:=row_len2 f11
  obtain ⟨x3,y3,z3⟩:=row_len2 f17
  have g1:a.eval (.tmp 107) = .slice x1 (D.ln.length+D.ln'.length) y1:=z1
  have g2:a.eval (.tmp 113) = .slice x2 (D.sm.length+D.sm'.length) y2:=z2
  have g3:a.eval (.tmp 119) = .slice x3 (D.ws.length+D.ws'.length) y3:=z3
  have k5:w.ownsRow w0.heap.size 58 18 (.slice x1 (D.ln.length+D.ln'.length) y1) (D.ln.length+D.ln'.length) (lcs D.ln++lcs D.ln'):=by rw [<- z1];exact f5
  have k11:w.ownsRow w0.heap.size 5 1 (.slice x2 (D.sm.length+D.sm'.length) y2) (D.sm.length+D.sm'.length) (bcs D.sm++bcs D.sm'):=by rw [<- z2];exact f11
  have k17:w.ownsRow w0.heap.size 62 3 (.slice x3 (D.ws.length+D.ws'.length) y3) (D.ws.length+D.ws'.length) (wcs D.ws++wcs D.ws'):=by rw [<- z3];exact f17
  refine op_val e2 (x_build e3 (r:=.agg #[.slice x1 (D.ln.length+D.ln'.length) y1,.slice x2 (D.sm.length+D.sm'.length) y2,.slice x3 (D.ws.length+D.ws'.length) y3]) (w':=w) (by simp only [List.map_toArray,List.map_cons,List.map_nil,g1,g2,g3];exact bdSh _ _ _ _ _ _ _ _ _ w)) (hK _ _ (Or.inl ⟨?_,(getD_set' (by omega)).trans h20⟩))
  rw [e1]
  exact hI.go (by omega) (st0 w) ⟨_,_,_,rfl,⟨by rw [List.length_append,lcs_app];exact k5,by rw [List.length_append,<- bcs_append];exact k11,by rw [List.length_append,wcs_app];exact k17⟩⟩
 ·obtain ⟨e1,e2,e3,e4⟩:=row_get ho cr19
  have hd:=needs_at e4 hall
  refine op_val e2 (x_alloc e3 (r:=pt w.heap.size 0) (alSh w)) (hK _ _ (Or.inl ⟨?_,(getD_set' (by omega)).trans h20⟩))
  rw [e1]
  exact hI.go (by omega) (stA (st0 w) _) ⟨w.heap.size,_,_,rfl,Bx.new w [.slice none 0 0,.slice none 0 0,.slice none 0 0] _ rfl,hI.low.size,heap_alloc_new w _⟩
 ·obtain ⟨e1,e2,e3,e4⟩:=row_get ho cr20
  have hd:=needs_at e4 hall
  have hl:∀ j,j < 20->listed.getD j false=true:=fun j hj=>hd j (by simpa using hj)
  obtain ⟨p,q,r,f1,f2⟩:=hI.phi 18 (by omega) (hl 18 (by omega))
  obtain ⟨b,cs,fr,g1,g2,g3,g4⟩:=hI.phi 19 (by omega) (hl 19 (by omega))
  obtain ⟨x1,y1,z1⟩:=row_len2 f2.ln
  obtain ⟨x2,y2,z2⟩:=row_len2 f2.sm
  obtain ⟨x3,y3,z3⟩:=row_len2 f2.ws
  have h120:a.eval (.tmp 120) = .agg #[p,q,r]:=f1
  have h21:a.eval (.tmp 21)=pt b 0:=g1
  refine step_store_mid e2 50 _ _ e3 b 0 #[p,q,r] h21 h120 (g2.there 0 3 (by simp)) info_shown (by subst z1 z2 z3;simp [Value.oneCell']) (hK _ _ (Or.inr ⟨?_,?_⟩))
  ·intro j hj
   by_cases hj20:j=20
   ·subst hj20
    rw [Array.getD_eq_getD_getElem?,Array.getElem?_setIfInBounds_self_of_lt (by rw [hs,cat_size];omega)]
    rfl
   ·rw [getD_set hj20]
    exact hl j (by omega)
  ·rw [e1]
   have hx:=g2.puts 0 [p,q,r] (by simp)
   rw [putL_whole _ _ (by simp)] at hx
   exact ⟨hI.sz,hI.df,below_sets' hI.low g3 _ _,hI.keep,b,p,q,r,h21,hx,⟨row_apart f2.ln g4 (by decide) _,row_apart f2.sm g4 (by decide) _,row_apart f2.ws g4 (by decide) _⟩⟩
end Go.Proofs.YtbhpfkjfijdmaaaGreatDoor
namespace Go.Proofs.YtbhpfkjfijdmaaaGreatDoor.C
set_option linter.unusedVariables false
set_option maxRecDepth 100000
set_option maxHeartbeats 1600000
section
variable {σ τ : Type} {m : Mem σ} {m' : Mem τ} {Q : σ -> τ -> Prop}
structure Sim (m : Mem σ) (m' : Mem τ) (Q : σ -> τ -> Prop) : Prop where
 rd:∀ s t a,Q s t->(m.rd s a).1=(m'.rd t a).1/\Q (m.rd s a).2 (m'.rd t a).2
 wr:∀ s t a b,Q s t->Q (m.wr s a b) (m'.wr t a b)
structure SQ (Q : σ -> τ -> Prop) (x : St σ) (y : St τ) : Prop where
 c:x.c=y.c
 n:x.n=y.n
 s:Q x.s y.s
theorem Sim.rdw (h:Sim m m' Q) {s:σ} {t:τ} (hq:Q s t) (a:Int):(m.rdw s a).1=(m'.rdw t a).1/\Q (m.rdw s a).2 (m'.rdw t a).2:=by
 obtain ⟨e1,q1⟩:=h.rd s t a hq
 obtain ⟨e2,q2⟩:=h.rd _ _ ((a+1) % 65536) q1
 exact ⟨by show (m.rd s a).1 * 256+_=(m'.rd t a).1 * 256+_;rw [e1,e2],q2⟩
theorem Sim.wrw (h:Sim m m' Q) {s:σ} {t:τ} (hq:Q s t) (a n:Int):Q (m.wrw s a n) (m'.wrw t a n):=h.wr _ _ _ _ (h.wr _ _ _ _ hq)
theorem Sim.push (h:Sim m m' Q) {c:Cpu} {s:σ} {t:τ} {k:Int} (hq:Q s t) (n:Int):SQ Q (push m ⟨c,s,k⟩ n) (push m' ⟨c,t,k⟩ n):=⟨rfl,rfl,h.wrw hq _ _⟩
theorem Sim.popV (h:Sim m m' Q) {c:Cpu} {s:σ} {t:τ} {k:Int} (hq:Q s t):popV m ⟨c,s,k⟩=popV m' ⟨c,t,k⟩:=(h.rdw hq _).1
theorem Sim.pop (h:Sim m m' Q) {c:Cpu} {s:σ} {t:τ} {k:Int} (hq:Q s t):SQ Q (pop m ⟨c,s,k⟩) (pop m' ⟨c,t,k⟩):=⟨rfl,rfl,(h.rdw hq _).2⟩
theorem Sim.leave (h:Sim m m' Q) {x:St σ} {y:St τ} (hx:SQ Q x y) (a:Int):SQ Q (leave m x a) (leave m' y a):=by
 obtain ⟨c,s,k⟩:=x
 obtain ⟨c',t,k'⟩:=y
 obtain ⟨rfl,rfl,hq⟩:=hx
 dsimp only at hq
 have h1:=h.push (c:=c) (k:=k) hq c.PC
 have h2:SQ Q (C.push m (C.push m ⟨c,s,k⟩ c.PC) (sign (C.push m ⟨c,s,k⟩ c.PC).c)) (C.push m' (C.push m' ⟨c,t,k⟩ c.PC) (sign (C.push m' ⟨c,t,k⟩ c.PC).c)):=h.push (c:=(C.push m ⟨c,s,k⟩ c.PC).c) (k:=k) h1.s _
 obtain ⟨e1,q1⟩:=h.rdw h2.s a
 refine ⟨?_,rfl,q1⟩
 unfold C.leave
 dsimp only
 rw [h2.c,e1]
theorem Sim.comeBack (h:Sim m m' Q) {x:St σ} {y:St τ} (hx:SQ Q x y):SQ Q (comeBack m x) (comeBack m' y):=by
 obtain ⟨c,s,k⟩:=x
 obtain ⟨c',t,k'⟩:=y
 obtain ⟨rfl,rfl,hq⟩:=hx
 dsimp only at hq
 have e1:=h.popV (c:=c) (k:=k) hq
 have h1:=h.pop (c:=c) (k:=k) hq
 have e2:C.popV m (C.pop m ⟨c,s,k⟩)=C.popV m' (C.pop m' ⟨c,t,k⟩):=h.popV (c:=(C.pop m ⟨c,s,k⟩).c) (k:=k) h1.s
 have h2:SQ Q (C.pop m (C.pop m ⟨c,s,k⟩)) (C.pop m' (C.pop m' ⟨c,t,k⟩)):=h.pop (c:=(C.pop m ⟨c,s,k⟩).c) (k:=k) h1.s
 refine ⟨?_,rfl,h2.s⟩
 unfold C.comeBack
 dsimp only
 rw [e1,e2,h2.c]
theorem Sim.act (h:Sim m m' Q) {x:St σ} {y:St τ} (hx:SQ Q x y) (k:Nat) (d s n w:Int):SQ Q (act m x k d s n w) (act m' y k d s n w):=by
 have hl:=h.leave hx 4
 have hcb:=h.comeBack hx
 obtain ⟨c,u,j⟩:=x
 obtain ⟨c',t,j'⟩:=y
 obtain ⟨rfl,rfl,hq⟩:=hx
 dsimp only at hq
 have u0:∀ (c':Cpu) (j':Int),SQ Q ⟨c',u,j'⟩ ⟨c',t,j'⟩:=fun _ _=>⟨rfl,rfl,hq⟩
 have r2:∀ a,SQ Q ⟨c.set d (m.rdw u a).1,(m.rdw u a).2,j⟩ ⟨c.set d (m'.rdw t a).1,(m'.rdw t a).2,j⟩:=fun a=>⟨by dsimp only;rw [(h.rdw hq a).1],rfl,(h.rdw hq a).2⟩
 have r1:∀ a,SQ Q ⟨c.set d (m.rd u a).1,(m.rd u a).2,j⟩ ⟨c.set d (m'.rd t a).1,(m'.rd t a).2,j⟩:=fun a=>⟨by dsimp only;rw [(h.rd u t a hq).1],rfl,(h.rd u t a hq).2⟩
 have w2:∀ a b,SQ Q ⟨c,m.wrw u a b,j⟩ ⟨c,m'.wrw t a b,j⟩:=fun a b=>⟨rfl,rfl,h.wrw hq a b⟩
 have w1:∀ a b,SQ Q ⟨c,m.wr u a b,j⟩ ⟨c,m'.wr t a b,j⟩:=fun a b=>⟨rfl,rfl,h.wr _ _ a b hq⟩
 have pu:=fun b=>h.push (c:=c) (k:=j) hq b
 have po:=h.pop (c:=c) (k:=j) hq
 have pv:=h.popV (c:=c) (k:=j) hq
 match k with
 | 0=>exact u0 _ _
 | 1=>exact u0 _ _
 | 2=>exact u0 _ _
 | 3=>exact r2 _
 | 4=>exact w2 _ _
 | 5=>exact r1 _
 | 6=>exact w1 _ _
 | 7=>exact u0 _ _
 | 8=>exact u0 _ _
 | 9=>exact u0 _ _
 | 10=>exact u0 _ _
 | 11=>exact u0 _ _
 | 12=>exact u0 _ _
 | 13=>exact u0 _ _
 | 14=>exact u0 _ _
 | 15=>exact u0 _ _
 | 16=>exact u0 _ _
 | 17=>show SQ Q (if c.Z then _ else _) (if c.Z then _ else _);split <;> exact u0 _ _
 | 18=>show SQ Q (if c.N then _ else _) (if c.N then _ else _);split <;> exact u0 _ _
 | 19=>show SQ Q (if c.C then _ else _) (if c.C then _ else _);split <;> exact u0 _ _
 | 20=>exact ⟨rfl,rfl,(pu _).s⟩
 | 21=>exact ⟨by show ({ (C.pop m ⟨c,u,j⟩).c with PC:=C.popV m ⟨c,u,j⟩ }:Cpu)={ (C.pop m' ⟨c,t,j⟩).c with PC:=C.popV m' ⟨c,t,j⟩ };rw [pv,po.c],rfl,po.s⟩
 | 22=>exact pu _
 | 23=>exact ⟨by show (C.pop m ⟨c,u,j⟩).c.set d (C.popV m ⟨c,u,j⟩)=(C.pop m' ⟨c,t,j⟩).c.set d (C.popV m' ⟨c,t,j⟩);rw [pv,po.c],rfl,po.s⟩
 | 24=>exact u0 _ _
 | 25=>exact u0 _ _
 | 26=>exact hcb
 | 27=>exact u0 _ _
 | 28=>exact u0 _ _
 | 29=>show SQ Q (if c.Z then _ else _) (if c.Z then _ else _);split <;> exact u0 _ _
 | 30=>exact u0 _ _
 | 31=>exact hl
 | k+32=>exact u0 _ _
theorem Sim.order (h:Sim m m' Q) (c:Cpu) {s:σ} {t:τ} (hq:Q s t):SQ Q (order m c s) (order m' c t):=by
 obtain ⟨e1,q1⟩:=h.rdw hq c.PC
 obtain ⟨e2,q2⟩:=h.rdw q1 ((c.PC+2) % 65536)
 have h1:C.word1 m c s=C.word1 m' c t:=e1
 have h2:C.word2 m c s=C.word2 m' c t:=by unfold C.word2;rw [h1,e2]
 have h3:SQ Q (C.behind m c s) (C.behind m' c t):=by
  unfold C.behind
  rw [h1]
  refine ⟨rfl,rfl,?_⟩
  dsimp only
  split
  ·exact q2
  ·exact q1
 unfold C.order
 rw [h1,h2]
 exact h.act (x:={ C.behind m c s with n:=K.cyc (O.rk (C.word1 m' c t)) }) (y:={ C.behind m' c t with n:=K.cyc (O.rk (C.word1 m' c t)) }) ⟨h3.c,rfl,h3.s⟩ _ _ _ _ _
theorem Sim.step (h:Sim m m' Q) (c:Cpu) {s:σ} {t:τ} (hq:Q s t) (r:Bool):SQ Q (step m c s r) (step m' c t r):=by
 unfold C.step
 split
 ·have:=h.leave (x:=⟨c,s,0⟩) (y:=⟨c,t,0⟩) ⟨rfl,rfl,hq⟩ 2
  exact ⟨this.c,rfl,this.s⟩
 ·split
  ·exact ⟨rfl,rfl,hq⟩
  ·exact h.order c hq
end
end Go.Proofs.YtbhpfkjfijdmaaaGreatDoor.C
namespace Go.Proofs.YtbhpfkjfijdmaaaGreatDoor
open Go.ChangeShapes Go.WideShapes Go.ChangeAt Go.RowKit
structure Bst.like (p : List Wt) (s t : Bst) : Prop where
 M:s.M=t.M
 l:s.l=p++t.l
theorem main_sim (p:List Wt):C.Sim mainMem mainMem (Bst.like p) where
 rd s t a h:=⟨by show (s.M.rdM a).1 % 256=(t.M.rdM a).1 % 256;rw [h.M],⟨by show (s.M.rdM a).2=(t.M.rdM a).2;rw [h.M],h.l⟩⟩
 wr s t a b h:=⟨by show s.M.wrM a (b % 256)=t.M.wrM a (b % 256);rw [h.M],h.l⟩
theorem aux_sim (p:List Wt):C.Sim auxMem auxMem (Bst.like p) where
 rd s t a h:=⟨by show (s.M.rdA a).1 % 256=(t.M.rdA a).1 % 256;rw [h.M],⟨by show (s.M.rdA a).2=(t.M.rdA a).2;rw [h.M],h.l⟩⟩
 wr s t a b h:=⟨by show s.M.wrA a (b % 256)=t.M.wrA a (b % 256);rw [h.M],by show s.l++s.M.shA a (b % 256)=p++(t.l++t.M.shA a (b % 256));rw [h.M,h.l,List.append_assoc]⟩
structure Bst.like2 (p : List Wt) (s t : Bst) : Prop extends Bst.like p s t where
 n:s.n=t.n
theorem main_sim2 (p:List Wt):C.Sim mainMem mainMem (Bst.like2 p) where
 rd s t a h:=⟨((main_sim p).rd s t a h.tolike).1,⟨((main_sim p).rd s t a h.tolike).2,h.n⟩⟩
 wr s t a b h:=⟨(main_sim p).wr s t a b h.tolike,by show s.n+_=t.n+_;rw [h.n]⟩
theorem stepMain_like {p:List Wt} {s t:Bst} (h:Bst.like p s t):Bst.like p s.stepMain t.stepMain:=by
 unfold Bst.stepMain
 rw [h.M]
 split
 ·exact h
 ·have hs:=(main_sim2 p).step t.M.main (s:=⟨t.M,0,s.l⟩) (t:=⟨t.M,0,t.l⟩) ⟨⟨rfl,h.l⟩,rfl⟩ (t.M.t.g || t.M.b.g)
  refine ⟨?_,hs.s.l⟩
  dsimp only
  rw [hs.c,hs.n,hs.s.M,hs.s.n]
theorem stepAux_like {p:List Wt} {s t:Bst} (h:Bst.like p s t):Bst.like p s.stepAux t.stepAux:=by
 unfold Bst.stepAux
 rw [h.M]
 split
 ·exact h
 ·have hs:=(aux_sim p).step t.M.aux (s:=s) (t:=t) h t.M.rung
  refine ⟨?_,hs.s.l⟩
  dsimp only
  rw [hs.c,hs.n,hs.s.M]
structure Cs.like (p : List Wt) (pl : List Lin) (ps : List UInt8) (k k' : Cs) : Prop where
 s:Bst.like p k.s k'.s
 co:k.co=k'.co
 ln:k.ln=pl++k'.ln
 sm:k.sm=ps++k'.sm
theorem clock_like {p:List Wt} {pl:List Lin} {ps:List UInt8} {k k':Cs} (h:Cs.like p pl ps k k'):Cs.like p pl ps k.clock k'.clock:=by
 have hM:=h.s.M
 have hc:=h.co
 have h1:Bst.like p ⟨k.s.M.pressed k.co,k.s.n,k.s.l⟩ ⟨k'.s.M.pressed k'.co,k'.s.n,k'.s.l⟩:=⟨by dsimp only;rw [hM,hc],h.s.l⟩
 have h2:=stepAux_like (stepMain_like h1)
 refine ⟨⟨?_,h2.l⟩,?_,?_,?_⟩
 ·show Mach.goOn (Bst.stepAux _).M=Mach.goOn (Bst.stepAux _).M
  rw [h2.M]
 ·show k.s.M.coming k.co=k'.s.M.coming k'.co
  rw [hM,hc]
 ·show k.ln++(k.s.M.pressed k.co).line=pl++(k'.ln++(k'.s.M.pressed k'.co).line)
  rw [h.ln,hM,hc,List.append_assoc]
 ·show k.sm++(k.s.M.pressed k.co).sample=ps++(k'.sm++(k'.s.M.pressed k'.co).sample)
  rw [h.sm,hM,hc,List.append_assoc]
theorem clocks_like {p:List Wt} {pl:List Lin} {ps:List UInt8} {k k':Cs} (h:Cs.like p pl ps k k'):∀ j:Nat,Cs.like p pl ps (k.clocks j) (k'.clocks j)
 | 0=>h
 | j+1=>clock_like (clocks_like h j)
theorem clocks_add (k:Cs) (a:Nat):∀ b:Nat,k.clocks (a+b)=(k.clocks a).clocks b
 | 0=>rfl
 | b+1=>by show (k.clocks (a+b)).clock=_;rw [clocks_add k a b];rfl
/-! ### what is still to be pressed -/
def Inps (l:List Inp):Prop:=l.Pairwise (fun x y=>x.c<=y.c)
theorem coming_filter:∀ (l:List Inp) (M:Mach),Inps l->M.coming l=l.filter (fun x=>decide (M.clock < x.c))
 | [],M,_=>rfl
 | x :: l,M,h=>by
  have h':=List.pairwise_cons.1 h
  unfold Mach.coming
  split
  ·rename_i hx
   rw [coming_filter l M h'.2,List.filter_cons_of_neg (by simp;omega)]
  ·rename_i hx
   rw [List.filter_cons_of_pos (by simp;omega),List.filter_eq_self.2 (fun y hy=>by have:=h'.1 y hy;simp;omega)]
theorem coming_after (k0:Cs) (l:List Inp) (h0:k0.co=l) (hp:Inps l) (hge:∀ x ∈ l,k0.s.M.clock<=x.c):∀ j:Nat,(k0.clocks j).s.M.clock=k0.s.M.clock+j/\(k0.clocks j).co=l.filter (fun x=>decide (k0.s.M.clock+j<=x.c))
 | 0=>⟨by simp [Cs.clocks],by
  show k0.co=_
  rw [h0,List.filter_eq_self.2 (fun y hy=>by have:=hge y hy;simp;omega)]⟩
 | j+1=>by
  obtain ⟨e1,e2⟩:=coming_after k0 l h0 hp hge j
  have e3:(k0.clocks (j+1)).co=(k0.clocks j).s.M.coming (k0.clocks j).co:=rfl
  refine ⟨?_,?_⟩
  ·show (k0.clocks j).now.s.M.clock+1=_
   rw [now_clock,e1];push_cast;omega
  ·rw [e3,e2,coming_filter _ _ (List.Pairwise.filter _ hp),List.filter_filter,e1]
   refine List.filter_congr (fun x hx=>?_)
   rw [<- Bool.decide_and]
   exact decide_eq_decide.2 (by push_cast;omega)
theorem two_parts (M:Mach) (l:List Inp) (hp:Inps l) (hge:∀ x ∈ l,M.clock<=x.c) (a b:Nat) :
 Cs.like (Cs.clocks ⟨⟨M,0,[]⟩,l,[],[]⟩ a).s.l (Cs.clocks ⟨⟨M,0,[]⟩,l,[],[]⟩ a).ln (Cs.clocks ⟨⟨M,0,[]⟩,l,[],[]⟩ a).sm (Cs.clocks ⟨⟨M,0,[]⟩,l,[],[]⟩ (a+b))
  (Cs.clocks ⟨⟨(Cs.clocks ⟨⟨M,0,[]⟩,l,[],[]⟩ a).s.M,0,[]⟩,l.filter (fun x=>decide (M.clock+a<=x.c)),[],[]⟩ b):=by
 rw [clocks_add]
 have hco:=(coming_after ⟨⟨M,0,[]⟩,l,[],[]⟩ l rfl hp hge a).2
 generalize Cs.clocks ⟨⟨M,0,[]⟩,l,[],[]⟩ a=k at hco ⊢
 exact clocks_like (p:=k.s.l) (pl:=k.ln) (ps:=k.sm) (k:=k) (k':=⟨⟨k.s.M,0,[]⟩,l.filter (fun x=>decide (M.clock+a<=x.c)),[],[]⟩) ⟨⟨rfl,by simp⟩,hco,by simp,by simp⟩ b
end Go.Proofs.YtbhpfkjfijdmaaaGreatDoor
