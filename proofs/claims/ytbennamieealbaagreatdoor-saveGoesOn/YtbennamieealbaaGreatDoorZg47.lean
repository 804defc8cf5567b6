/-
  Parts of a proof, joined.
-/
import Derived.Test.YtbennamieealbaaGreatDoorZg45
set_option linter.unusedVariables false
set_option maxRecDepth 100000
set_option maxHeartbeats 1600000
namespace Go.Proofs.YtbennamieealbaaGreatDoor.Cx
open Go.ChangeShapes Go.WideShapes Go.ChangeAt Go.RowKit
def cPt:List Bool->Code->Code
 | [],c=>c
 | b::l,.seq x y=>cPt l (if b then y else x)
 | _::_,c=>c
noncomputable def catOps : Array Oper := match cPt [true, true, true, true, true, true, true, true, true, true, false] (Tryz.f5.body.getD .skip) with | .region _ ops _ => ops | _ => #[]
def needs (o:Oper) (l:List Nat):Bool:=l.all λj=>o.after.toList.any λe=>Region.binds .any e && e.on == j
theorem needs_at {o:Oper} {l:List Nat} {listed:Array Bool} (h:needs o l=true) (hall:∀ e∈o.after,Region.binds .any e=true->listed.getD e.on false=true):∀ j∈l,listed.getD j false=true:=λj hj=>by
 have h1:=List.all_eq_true.1 h j hj
 obtain ⟨e,he,h2⟩:=List.any_eq_true.1 h1
 simp only [Bool.and_eq_true,beq_iff_eq] at h2
 have:=hall e (by simpa using he) h2.1
 rwa [h2.2] at this
def row (o:Oper) (l:List Nat):Option Nat × Option (Nat × Bool) × Op × Bool:=(o.dst,o.guard,o.op,needs o l)
theorem row_get {i:Nat} {o:Oper} {l:List Nat} {d:Option Nat} {p:Op} (ho:catOps[i]? = some o) (h:(catOps[i]?).map (λo=>row o l)=some (d,none,p,true)):o.dst=d/\o.guard=none/\o.op=p/\needs o l=true:=by
 rw [ho] at h
 simp only [Option.map_some,Option.some.injEq,row,Prod.mk.injEq] at h
 exact h
theorem cat_size:catOps.size=21:=by kernel_rfl
theorem cr0:(catOps[0]?).map (λo=>row o [])=some (some 124,none,.fieldAddr 50 (.tmp 10) 0,true):=by kernel_rfl
theorem cr1:(catOps[1]?).map (λo=>row o [0])=some (some 125,none,.load 47 (.tmp 124),true):=by kernel_rfl
theorem cr2:(catOps[2]?).map (λo=>row o [])=some (some 126,none,.fieldAddr 50 (.tmp 20) 0,true):=by kernel_rfl
theorem cr3:(catOps[3]?).map (λo=>row o [2])=some (some 127,none,.load 47 (.tmp 126),true):=by kernel_rfl
theorem cr4:(catOps[4]?).map (λo=>row o [1,3])=some (some 128,none,.buildSlice 100 2 #[(0,.tmp 125),(1,.tmp 127)],true):=by kernel_rfl
theorem cr5:(catOps[5]?).map (λo=>row o [4])=some (some 129,none,.call { callee:=.value (.func 15),args:=#[.tmp 128],argTypes:=#[100] },true):=by kernel_rfl
theorem cr6:(catOps[6]?).map (λo=>row o [])=some (some 130,none,.fieldAddr 50 (.tmp 10) 1,true):=by kernel_rfl
theorem cr7:(catOps[7]?).map (λo=>row o [6])=some (some 131,none,.load 26 (.tmp 130),true):=by kernel_rfl
theorem cr8:(catOps[8]?).map (λo=>row o [])=some (some 132,none,.fieldAddr 50 (.tmp 20) 1,true):=by kernel_rfl
theorem cr9:(catOps[9]?).map (λo=>row o [8])=some (some 133,none,.load 26 (.tmp 132),true):=by kernel_rfl
theorem cr10:(catOps[10]?).map (λo=>row o [7,9])=some (some 134,none,.buildSlice 102 2 #[(0,.tmp 131),(1,.tmp 133)],true):=by kernel_rfl
theorem cr11:(catOps[11]?).map (λo=>row o [10])=some (some 135,none,.call { callee:=.value (.func 16),args:=#[.tmp 134],argTypes:=#[102] },true):=by kernel_rfl
theorem cr12:(catOps[12]?).map (λo=>row o [])=some (some 136,none,.fieldAddr 50 (.tmp 10) 2,true):=by kernel_rfl
theorem cr13:(catOps[13]?).map (λo=>row o [12])=some (some 137,none,.load 48 (.tmp 136),true):=by kernel_rfl
theorem cr14:(catOps[14]?).map (λo=>row o [])=some (some 138,none,.fieldAddr 50 (.tmp 20) 2,true):=by kernel_rfl
theorem cr15:(catOps[15]?).map (λo=>row o [14])=some (some 139,none,.load 48 (.tmp 138),true):=by kernel_rfl
theorem cr16:(catOps[16]?).map (λo=>row o [13,15])=some (some 140,none,.buildSlice 104 2 #[(0,.tmp 137),(1,.tmp 139)],true):=by kernel_rfl
theorem cr17:(catOps[17]?).map (λo=>row o [16])=some (some 141,none,.call { callee:=.value (.func 17),args:=#[.tmp 140],argTypes:=#[104] },true):=by kernel_rfl
theorem cr18:(catOps[18]?).map (λo=>row o [5,11,17])=some (some 142,none,.build 50 #[(0,.tmp 129),(1,.tmp 135),(2,.tmp 141)],true):=by kernel_rfl
theorem cr19:(catOps[19]?).map (λo=>row o [])=some (some 23,none,.alloc 50,true):=by kernel_rfl
theorem cr20:(catOps[20]?).map (λo=>row o (List.range 20))=some (none,none,.store 50 (.tmp 23) (.tmp 142),true):=by kernel_rfl
def dstOf (i:Nat):Nat:=if i=19 then 23 else 124+i
theorem dst_ne {i j:Nat} (h:i≠j) (hi:i<20) (hj:j<20):dstOf i≠dstOf j:=by
 unfold dstOf
 split <;> split <;> omega
theorem dst_out {i d:Nat} (hi:i<20) (hd:d<124 \/ 142<d) (h21:d≠23):d≠dstOf i:=by
 unfold dstOf
 split <;> omega
theorem dst_lt {i:Nat} (hi:i<20):dstOf i<159:=by
 unfold dstOf
 split <;> omega
structure CInv (D : Cat) (w0 : World) (u : Nat -> Value) (listed : Array Bool) (a : Act) (w : World) : Prop where
 sz:a.tmps.size=159
 df:a.defers=[]
 low:Below w0.heap.size w0 w
 keep:∀ d,(d<124 \/ 142<d)->d≠23->sv a d=u d
 phi:∀ i,i<20->listed.getD i false=true->D.phi w0.heap.size i (sv a (dstOf i)) w
structure CEnd (D : Cat) (w0 : World) (u : Nat -> Value) (a : Act) (w : World) : Prop where
 sz:a.tmps.size=159
 df:a.defers=[]
 low:Below w0.heap.size w0 w
 keep:∀ d,(d<124 \/ 142<d)->d≠23->sv a d=u d
 out:∃ b p q r,sv a 23=pt b 0/\Bx w b [p,q,r]/\Own3 w0.heap.size w p q r (D.ln++D.ln') (D.sm++D.sm') (D.ws++D.ws')
theorem getD_set {l:Array Bool} {i j:Nat} (h:j≠i):(l.setIfInBounds i true).getD j false=l.getD j false:=by
 rw [Array.getD_eq_getD_getElem?,Array.getD_eq_getD_getElem?,Array.getElem?_setIfInBounds_ne (by omega)]
theorem CInv.go {D:Cat} {w0:World} {u:Nat->Value} {listed:Array Bool} {a:Act} {w w':World} {i:Nat} {v:Value} (h:CInv D w0 u listed a w) (hi:i<20) (hb:Below w.heap.size w w') (hv:D.phi w0.heap.size i v w'):CInv D w0 u (listed.setIfInBounds i true) (a.put (some (dstOf i)) v) w':=by
 have hlt:dstOf i<a.tmps.size:=by rw [h.sz];exact dst_lt hi
 refine ⟨by rw [size_put];exact h.sz,h.df,stp h.low hb,λd hd h21=>by rw [sv_ne (dst_out hi hd h21)];exact h.keep d hd h21,λj hj hl=>?_⟩
 by_cases hji:j=i
 ·subst hji
  rw [zmJ hlt]
  exact hv
 ·rw [getD_set hji] at hl
  rw [sv_ne (dst_ne hji hj hi)]
  exact Cat.phi_kept (h.phi j hj hl) hb
noncomputable def early : Bool := (List.range 21).all fun i => match catOps[i]? with | some o => o.after.toList.all (fun e => !Region.binds .any e || decide (e.on < i)) | none => false
theorem early_t:early=true:=by kernel_rfl
theorem getD_two {l:Array Bool} {i:Nat} (h:i<l.size) (ht:l.getD i true=true):l.getD i false=true:=by
 rw [Array.getD_eq_getD_getElem?,Array.getElem?_eq_getElem h] at ht ⊢
 exact ht
theorem ready_all {listed:Array Bool} (hs:listed.size=catOps.size) (hr:Region.ready .any catOps listed=[]):∀ i,i<21->listed.getD i true=true:=by
 intro i
 induction i using Nat.strongRecOn with
 | ind i ih =>
  intro hi
  cases h:listed.getD i true with
  | true=>rfl
  | false =>
   exfalso
   have h1:=List.all_eq_true.1 early_t i (List.mem_range.2 hi)
   cases ho:catOps[i]? with
   | none=>simp only [ho] at h1;cases h1
   | some o =>
    simp only [ho] at h1
    have hm:i∈Region.ready .any catOps listed:=mem_ready.2 ⟨h,o,ho,λe he hb=>by
     have h2:=List.all_eq_true.1 h1 e (by simpa using he)
     rw [hb] at h2
     have h3:e.on<i:=by simpa using h2
     exact getD_two (by rw [hs,cat_size];omega) (ih e.on h3 (by omega))⟩
    rw [hr] at hm
    cases hm
theorem getD_set' {l:Array Bool} {i j:Nat} (h:j≠i):(l.setIfInBounds i true).getD j true=l.getD j true:=by
 rw [Array.getD_eq_getD_getElem?,Array.getD_eq_getD_getElem?,Array.getElem?_setIfInBounds_ne (by omega)]
def CIn (D:Cat) (w0:World) (u:Nat->Value) (listed:Array Bool) (a:Act) (w:World):Prop:=(CInv D w0 u listed a w/\listed.getD 20 true=false) \/ (∀ j,j<21->listed.getD j false=true)/\CEnd D w0 u a w
theorem rw16_one (f:Nat->Nat):∀ u∈row16 f,u.oneCell'=true:=λu hu=>by
 obtain ⟨x,_,rfl⟩:=List.mem_map.1 hu
 rfl
theorem lcs_one:∀ l:List Lin,∀ u∈lcs l,u.oneCell'=true
 | [],u,h=>by cases h
 | x::l,u,h=>by
  simp only [lcs,List.mem_cons,List.mem_append] at h
  rcases h with rfl|rfl|h|h
  ·rfl
  ·rfl
  ·exact rw16_one _ u h
  ·exact lcs_one l u h
theorem wcs_one:∀ l:List Wt,∀ u∈wcs l,u.oneCell'=true
 | [],u,h=>by cases h
 | x::l,u,h=>by
  simp only [wcs,List.mem_cons] at h
  rcases h with rfl|rfl|rfl|h
  ·rfl
  ·rfl
  ·rfl
  ·exact wcs_one l u h
theorem bcs_one (l:List UInt8):∀ u∈bcs l,u.oneCell'=true:=λu hu=>by
 simp only [bcs,List.mem_map] at hu
 obtain ⟨c,_,rfl⟩:=hu
 rfl
theorem own_base {B B' z n:Nat} {t:TypeId} {v:Value} {xs:List Value} {w:World} (h:w.ownsRow B t z v n xs) (hB:B'<=B):w.ownsRow B' t z v n xs:=by
 refine ⟨h.1,?_⟩
 rcases h.2 with h1|⟨g,cap,cur,h1,h2,h3⟩
 ·exact Or.inl h1
 ·exact Or.inr ⟨g,cap,cur,h1,Nat.le_trans hB h2,h3⟩
theorem row_apart {B z n:Nat} {t t':TypeId} {v:Value} {xs:List Value} {w:World} {b:Nat} {cs:Array Value} {fr:Nat × Nat} (h:w.ownsRow B t z v n xs) (hb:w.heap[b]? = some (.cells cs t' fr)) (ht:t≠t') (vs:List Value):(w.setCells b 0 vs).ownsRow B t z v n xs :=
 zaA h (λj e=>zag (λe2=>by
  obtain ⟨_,_,cs',h3⟩:=zaJ h j e
  rw [e2,hb] at h3
  cases h3
  exact ht rfl) _ _ _)
theorem cat_region (D:Cat) (w0:World) (u:Nat->Value) (hD:D.at w0) (hu10:u 10=pt D.sb 0) (hu16:u 20=pt D.tb 0) {Q:Exit->Act->World->Prop} {a:Act} (hsz:a.tmps.size=159) (hdf:a.defers=[]) (hk:∀ d,(d<124 \/ 142<d)->d≠23->sv a d=u d)
 (hend:∀ a' w',CEnd D w0 u a' w'->Q .normal a' w') {id:Nat}:(Code.region id catOps true).wp Tryz.prog Q a w0:=by
 refine wp_region_any (by kernel_rfl) ?_
 refine wpAnyI (CIn D w0 u) ?_ ?_ _ _ _ _ (by simp) (by simp) (Or.inl ⟨⟨hsz,hdf,(st0 w0).drew,hk,λi hi hl=>by rw [cat_size,Array.getD_eq_getD_getElem?,Array.getElem?_replicate,if_pos (by omega)] at hl;cases hl⟩,by rw [cat_size];rfl⟩)
 rotate_left 1
 ·intro listed a' w' hI hs hr
  rcases hI with ⟨_,h20⟩|⟨_,hI⟩
  ·rw [ready_all hs hr 20 (by omega)] at h20
   cases h20
  ·exact hend a' w' hI
 intro listed a w i o hI hs ho hun hall K hK
 have hi:i<21:=by rw [<- cat_size];exact (Array.getElem?_eq_some_iff.1 ho).1
 rcases hI with ⟨hI,h20⟩|⟨hI,_⟩
 rotate_left 1
 ·have:=hI i hi
  exfalso
  rw [Array.getD_eq_getD_getElem?] at this hun
  cases h:listed[i]? with
  | none=>rw [h] at this;cases this
  | some b=>rw [h] at this hun;simp at this hun;rw [this] at hun;cases hun
 have hc:i=0 \/ i=1 \/ i=2 \/ i=3 \/ i=4 \/ i=5 \/ i=6 \/ i=7 \/ i=8 \/ i=9 \/ i=10 \/ i=11 \/ i=12 \/ i=13 \/ i=14 \/ i=15 \/ i=16 \/ i=17 \/ i=18 \/ i=19 \/ i=20:=by omega
 rcases hc with rfl|rfl|rfl|rfl|rfl|rfl|rfl|rfl|rfl|rfl|rfl|rfl|rfl|rfl|rfl|rfl|rfl|rfl|rfl|rfl|rfl
 ·obtain ⟨e1,e2,e3,e4⟩:=row_get ho cr0
  have hd:=needs_at e4 hall
  have g:=hI.keep 10 (by omega) (by omega)
  refine zbd e2 (zcQ e3 (r:=pt D.sb 0) (w':=w) (by have g':a.eval (.tmp 10)=pt D.sb 0:=g.trans hu10;rw [g'];exact fld3 _ 0 (by omega) w)) (hK _ _ (Or.inl ⟨?_,(getD_set' (by omega)).trans h20⟩))
  rw [e1]
  exact hI.go (by omega) (st0 w) rfl
 ·obtain ⟨e1,e2,e3,e4⟩:=row_get ho cr1
  have hd:=needs_at e4 hall
  have f0:=hI.phi 0 (by omega) (hd 0 (by simp))
  have g:a.eval (.tmp 124)=pt D.sb 0:=f0
  refine zbd e2 (zeF e3 (r:=D.p1) (w':=w) (by rw [g];exact ld1 Tryz.isAgg47 ((hD.kept hI.low).s.at 0 _ rfl))) (hK _ _ (Or.inl ⟨?_,(getD_set' (by omega)).trans h20⟩))
  rw [e1]
  exact hI.go (by omega) (st0 w) rfl
 ·obtain ⟨e1,e2,e3,e4⟩:=row_get ho cr2
  have hd:=needs_at e4 hall
  have g:=hI.keep 20 (by omega) (by omega)
  refine zbd e2 (zcQ e3 (r:=pt D.tb 0) (w':=w) (by have g':a.eval (.tmp 20)=pt D.tb 0:=g.trans hu16;rw [g'];exact fld3 _ 0 (by omega) w)) (hK _ _ (Or.inl ⟨?_,(getD_set' (by omega)).trans h20⟩))
  rw [e1]
  exact hI.go (by omega) (st0 w) rfl
 ·obtain ⟨e1,e2,e3,e4⟩:=row_get ho cr3
  have hd:=needs_at e4 hall
  have f2:=hI.phi 2 (by omega) (hd 2 (by simp))
  have g:a.eval (.tmp 126)=pt D.tb 0:=f2
  refine zbd e2 (zeF e3 (r:=D.q1) (w':=w) (by rw [g];exact ld1 Tryz.isAgg47 ((hD.kept hI.low).t.at 0 _ rfl))) (hK _ _ (Or.inl ⟨?_,(getD_set' (by omega)).trans h20⟩))
  rw [e1]
  exact hI.go (by omega) (st0 w) rfl
 ·obtain ⟨e1,e2,e3,e4⟩:=row_get ho cr4
  have hd:=needs_at e4 hall
  have f1:=hI.phi 1 (by omega) (hd 1 (by simp))
  have f3:=hI.phi 3 (by omega) (hd 3 (by simp))
  have g1:a.eval (.tmp 125)=D.p1:=f1
  have g2:a.eval (.tmp 127)=D.q1:=f3
  refine zbd e2 (zfx e3 (r:=.slice (some ⟨w.heap.size,0,none⟩) 2 2) (by simp only [List.map_toArray,List.map_cons,List.map_nil,g1,g2];exact bsLn _ _ _ _ _ _ w)) (hK _ _ (Or.inl ⟨?_,(getD_set' (by omega)).trans h20⟩))
  rw [e1]
  exact hI.go (by omega) (stA (st0 w) _) ⟨w.heap.size,rfl,Pl.new _ _ _ _ rfl,Pl.new _ _ _ _ rfl,by simp⟩
 ·obtain ⟨e1,e2,e3,e4⟩:=row_get ho cr5
  have hd:=needs_at e4 hall
  have f4:=hI.phi 4 (by omega) (hd 4 (by simp))
  obtain ⟨b,q1,q2,q3,q4⟩:=f4
  have hx:=hD.kept hI.low
  refine zgJ e2 e3 (R:=λv w'=>D.phi w0.heap.size 5 v w'/\Below w.heap.size w w') q1 (λ_ _=>rfl) ((catLn b _ _ _ _ _ _ w (hx.x.ln) (hx.y.ln) (lcs_one _) (lcs_one _) q2 q3 hx.l1).mono ?_) (λv w' h=>hK _ _ (Or.inl ⟨?_,(getD_set' (by omega)).trans h20⟩))
  ·rintro e w' ⟨v,rfl,h1,h2⟩
   exact ⟨v,rfl,own_base h1 hI.low.size,h2⟩
  ·rw [e1]
   exact hI.go (by omega) h.2 h.1
 ·obtain ⟨e1,e2,e3,e4⟩:=row_get ho cr6
  have hd:=needs_at e4 hall
  have g:=hI.keep 10 (by omega) (by omega)
  refine zbd e2 (zcQ e3 (r:=pt D.sb 1) (w':=w) (by have g':a.eval (.tmp 10)=pt D.sb 0:=g.trans hu10;rw [g'];exact fld3 _ 1 (by omega) w)) (hK _ _ (Or.inl ⟨?_,(getD_set' (by omega)).trans h20⟩))
  rw [e1]
  exact hI.go (by omega) (st0 w) rfl
 ·obtain ⟨e1,e2,e3,e4⟩:=row_get ho cr7
  have hd:=needs_at e4 hall
  have f6:=hI.phi 6 (by omega) (hd 6 (by simp))
  have g:a.eval (.tmp 130)=pt D.sb 1:=f6
  refine zbd e2 (zeF e3 (r:=D.p2) (w':=w) (by rw [g];exact ld1 Tryz.isAgg26 ((hD.kept hI.low).s.at 1 _ rfl))) (hK _ _ (Or.inl ⟨?_,(getD_set' (by omega)).trans h20⟩))
  rw [e1]
  exact hI.go (by omega) (st0 w) rfl
 ·obtain ⟨e1,e2,e3,e4⟩:=row_get ho cr8
  have hd:=needs_at e4 hall
  have g:=hI.keep 20 (by omega) (by omega)
  refine zbd e2 (zcQ e3 (r:=pt D.tb 1) (w':=w) (by have g':a.eval (.tmp 20)=pt D.tb 0:=g.trans hu16;rw [g'];exact fld3 _ 1 (by omega) w)) (hK _ _ (Or.inl ⟨?_,(getD_set' (by omega)).trans h20⟩))
  rw [e1]
  exact hI.go (by omega) (st0 w) rfl
 ·obtain ⟨e1,e2,e3,e4⟩:=row_get ho cr9
  have hd:=needs_at e4 hall
  have f8:=hI.phi 8 (by omega) (hd 8 (by simp))
  have g:a.eval (.tmp 132)=pt D.tb 1:=f8
  refine zbd e2 (zeF e3 (r:=D.q2) (w':=w) (by rw [g];exact ld1 Tryz.isAgg26 ((hD.kept hI.low).t.at 1 _ rfl))) (hK _ _ (Or.inl ⟨?_,(getD_set' (by omega)).trans h20⟩))
  rw [e1]
  exact hI.go (by omega) (st0 w) rfl
 ·obtain ⟨e1,e2,e3,e4⟩:=row_get ho cr10
  have hd:=needs_at e4 hall
  have f7:=hI.phi 7 (by omega) (hd 7 (by simp))
  have f9:=hI.phi 9 (by omega) (hd 9 (by simp))
  have g1:a.eval (.tmp 131)=D.p2:=f7
  have g2:a.eval (.tmp 133)=D.q2:=f9
  refine zbd e2 (zfx e3 (r:=.slice (some ⟨w.heap.size,0,none⟩) 2 2) (by simp only [List.map_toArray,List.map_cons,List.map_nil,g1,g2];exact bsBy _ _ _ _ _ _ w)) (hK _ _ (Or.inl ⟨?_,(getD_set' (by omega)).trans h20⟩))
  rw [e1]
  exact hI.go (by omega) (stA (st0 w) _) ⟨w.heap.size,rfl,Pl.new _ _ _ _ rfl,Pl.new _ _ _ _ rfl,by simp⟩
 ·obtain ⟨e1,e2,e3,e4⟩:=row_get ho cr11
  have hd:=needs_at e4 hall
  have f10:=hI.phi 10 (by omega) (hd 10 (by simp))
  obtain ⟨b,q1,q2,q3,q4⟩:=f10
  have hx:=hD.kept hI.low
  refine zgJ e2 e3 (R:=λv w'=>D.phi w0.heap.size 11 v w'/\Below w.heap.size w w') q1 (λ_ _=>rfl) ((catBy b _ _ _ _ _ _ w (zf9 hx.x.sm) (zf9 hx.y.sm) (bcs_one _) (bcs_one _) q2 q3 hx.l2).mono ?_) (λv w' h=>hK _ _ (Or.inl ⟨?_,(getD_set' (by omega)).trans h20⟩))
  ·rintro e w' ⟨v,rfl,h1,h2⟩
   exact ⟨v,rfl,own_base h1 hI.low.size,h2⟩
  ·rw [e1]
   exact hI.go (by omega) h.2 h.1
 ·obtain ⟨e1,e2,e3,e4⟩:=row_get ho cr12
  have hd:=needs_at e4 hall
  have g:=hI.keep 10 (by omega) (by omega)
  refine zbd e2 (zcQ e3 (r:=pt D.sb 2) (w':=w) (by have g':a.eval (.tmp 10)=pt D.sb 0:=g.trans hu10;rw [g'];exact fld3 _ 2 (by omega) w)) (hK _ _ (Or.inl ⟨?_,(getD_set' (by omega)).trans h20⟩))
  rw [e1]
  exact hI.go (by omega) (st0 w) rfl
 ·obtain ⟨e1,e2,e3,e4⟩:=row_get ho cr13
  have hd:=needs_at e4 hall
  have f12:=hI.phi 12 (by omega) (hd 12 (by simp))
  have g:a.eval (.tmp 136)=pt D.sb 2:=f12
  refine zbd e2 (zeF e3 (r:=D.p3) (w':=w) (by rw [g];exact ld1 Tryz.isAgg48 ((hD.kept hI.low).s.at 2 _ rfl))) (hK _ _ (Or.inl ⟨?_,(getD_set' (by omega)).trans h20⟩))
  rw [e1]
  exact hI.go (by omega) (st0 w) rfl
 ·obtain ⟨e1,e2,e3,e4⟩:=row_get ho cr14
  have hd:=needs_at e4 hall
  have g:=hI.keep 20 (by omega) (by omega)
  refine zbd e2 (zcQ e3 (r:=pt D.tb 2) (w':=w) (by have g':a.eval (.tmp 20)=pt D.tb 0:=g.trans hu16;rw [g'];exact fld3 _ 2 (by omega) w)) (hK _ _ (Or.inl ⟨?_,(getD_set' (by omega)).trans h20⟩))
  rw [e1]
  exact hI.go (by omega) (st0 w) rfl
 ·obtain ⟨e1,e2,e3,e4⟩:=row_get ho cr15
  have hd:=needs_at e4 hall
  have f14:=hI.phi 14 (by omega) (hd 14 (by simp))
  have g:a.eval (.tmp 138)=pt D.tb 2:=f14
  refine zbd e2 (zeF e3 (r:=D.q3) (w':=w) (by rw [g];exact ld1 Tryz.isAgg48 ((hD.kept hI.low).t.at 2 _ rfl))) (hK _ _ (Or.inl ⟨?_,(getD_set' (by omega)).trans h20⟩))
  rw [e1]
  exact hI.go (by omega) (st0 w) rfl
 ·obtain ⟨e1,e2,e3,e4⟩:=row_get ho cr16
  have hd:=needs_at e4 hall
  have f13:=hI.phi 13 (by omega) (hd 13 (by simp))
  have f15:=hI.phi 15 (by omega) (hd 15 (by simp))
  have g1:a.eval (.tmp 137)=D.p3:=f13
  have g2:a.eval (.tmp 139)=D.q3:=f15
  refine zbd e2 (zfx e3 (r:=.slice (some ⟨w.heap.size,0,none⟩) 2 2) (by simp only [List.map_toArray,List.map_cons,List.map_nil,g1,g2];exact bsWr _ _ _ _ _ _ w)) (hK _ _ (Or.inl ⟨?_,(getD_set' (by omega)).trans h20⟩))
  rw [e1]
  exact hI.go (by omega) (stA (st0 w) _) ⟨w.heap.size,rfl,Pl.new _ _ _ _ rfl,Pl.new _ _ _ _ rfl,by simp⟩
 ·obtain ⟨e1,e2,e3,e4⟩:=row_get ho cr17
  have hd:=needs_at e4 hall
  have f16:=hI.phi 16 (by omega) (hd 16 (by simp))
  obtain ⟨b,q1,q2,q3,q4⟩:=f16
  have hx:=hD.kept hI.low
  refine zgJ e2 e3 (R:=λv w'=>D.phi w0.heap.size 17 v w'/\Below w.heap.size w w') q1 (λ_ _=>rfl) ((catWr b _ _ _ _ _ _ w (hx.x.ws) (hx.y.ws) (wcs_one _) (wcs_one _) q2 q3 hx.l3).mono ?_) (λv w' h=>hK _ _ (Or.inl ⟨?_,(getD_set' (by omega)).trans h20⟩))
  ·rintro e w' ⟨v,rfl,h1,h2⟩
   exact ⟨v,rfl,own_base h1 hI.low.size,h2⟩
  ·rw [e1]
   exact hI.go (by omega) h.2 h.1
 ·obtain ⟨e1,e2,e3,e4⟩:=row_get ho cr18
  have hd:=needs_at e4 hall
  have f5:=hI.phi 5 (by omega) (hd 5 (by simp))
  have f11:=hI.phi 11 (by omega) (hd 11 (by simp))
  have f17:=hI.phi 17 (by omega) (hd 17 (by simp))
  obtain ⟨x1,y1,z1⟩:=zbv f5
  obtain ⟨x2,y2,z2⟩:=zbv f11
  obtain ⟨x3,y3,z3⟩:=zbv f17
  have g1:a.eval (.tmp 129) = .slice x1 (D.ln.length+D.ln'.length) y1:=z1
  have g2:a.eval (.tmp 135) = .slice x2 (D.sm.length+D.sm'.length) y2:=z2
  have g3:a.eval (.tmp 141) = .slice x3 (D.ws.length+D.ws'.length) y3:=z3
  have k5:w.ownsRow w0.heap.size 62 18 (.slice x1 (D.ln.length+D.ln'.length) y1) (D.ln.length+D.ln'.length) (lcs D.ln++lcs D.ln'):=by rw [<- z1];exact f5
  have k11:w.ownsRow w0.heap.size 5 1 (.slice x2 (D.sm.length+D.sm'.length) y2) (D.sm.length+D.sm'.length) (bcs D.sm++bcs D.sm'):=by rw [<- z2];exact f11
  have k17:w.ownsRow w0.heap.size 66 3 (.slice x3 (D.ws.length+D.ws'.length) y3) (D.ws.length+D.ws'.length) (wcs D.ws++wcs D.ws'):=by rw [<- z3];exact f17
  refine zbd e2 (znY e3 (r:=.agg #[.slice x1 (D.ln.length+D.ln'.length) y1,.slice x2 (D.sm.length+D.sm'.length) y2,.slice x3 (D.ws.length+D.ws'.length) y3]) (w':=w) (by simp only [List.map_toArray,List.map_cons,List.map_nil,g1,g2,g3];exact bdSh _ _ _ _ _ _ _ _ _ w)) (hK _ _ (Or.inl ⟨?_,(getD_set' (by omega)).trans h20⟩))
  rw [e1]
  exact hI.go (by omega) (st0 w) ⟨_,_,_,rfl,⟨by rw [List.length_append,zgy];exact k5,by rw [List.length_append,<- zbi];exact k11,by rw [List.length_append,zgg];exact k17⟩⟩
 ·obtain ⟨e1,e2,e3,e4⟩:=row_get ho cr19
  have hd:=needs_at e4 hall
  refine zbd e2 (znZ e3 (r:=pt w.heap.size 0) (alSh w)) (hK _ _ (Or.inl ⟨?_,(getD_set' (by omega)).trans h20⟩))
  rw [e1]
  exact hI.go (by omega) (stA (st0 w) _) ⟨w.heap.size,_,_,rfl,Bx.new w [.slice none 0 0,.slice none 0 0,.slice none 0 0] _ rfl,hI.low.size,heap_alloc_new w _⟩
 ·obtain ⟨e1,e2,e3,e4⟩:=row_get ho cr20
  have hd:=needs_at e4 hall
  have hl:∀ j,j<20->listed.getD j false=true:=λj hj=>hd j (by simpa using hj)
  obtain ⟨p,q,r,f1,f2⟩:=hI.phi 18 (by omega) (hl 18 (by omega))
  obtain ⟨b,cs,fr,g1,g2,g3,g4⟩:=hI.phi 19 (by omega) (hl 19 (by omega))
  obtain ⟨x1,y1,z1⟩:=zbv f2.ln
  obtain ⟨x2,y2,z2⟩:=zbv f2.sm
  obtain ⟨x3,y3,z3⟩:=zbv f2.ws
  have h120:a.eval (.tmp 142) = .agg #[p,q,r]:=f1
  have h21:a.eval (.tmp 23)=pt b 0:=g1
  refine zam e2 50 _ _ e3 b 0 #[p,q,r] h21 h120 (g2.there 0 3 (by simp)) zaO (by subst z1 z2 z3;simp [Value.oneCell']) (hK _ _ (Or.inr ⟨?_,?_⟩))
  ·intro j hj
   by_cases hj20:j=20
   ·subst hj20
    rw [Array.getD_eq_getD_getElem?,Array.getElem?_setIfInBounds_self_of_lt (by rw [hs,cat_size];omega)]
    rfl
   ·rw [getD_set hj20]
    exact hl j (by omega)
  ·rw [e1]
   have hx:=g2.puts 0 [p,q,r] (by simp)
   rw [zau _ _ (by simp)] at hx
   exact ⟨hI.sz,hI.df,zaG hI.low g3 _ _,hI.keep,b,p,q,r,h21,hx,⟨row_apart f2.ln g4 (by decide) _,row_apart f2.sm g4 (by decide) _,row_apart f2.ws g4 (by decide) _⟩⟩
theorem arr_lit' {n:Nat} (t:Array Value) (h:t.size=n):t=((List.range n).map (λi=>t.getD i undef)).toArray:=by
 apply Array.ext
 ·simp [h]
 ·intro i h1 h2
  simp [Array.getD,h1]
theorem act_open' (a:Act) (hs:a.tmps.size=159) (hd:a.defers=[]):∃ f:Nat->Value,(∀ i,sv a i=f i)/\a={ tmps:=List.toArray (f 0::f 1::f 2::f 3::f 4::f 5::f 6::f 7::f 8::f 9::f 10::f 11::f 12::f 13::f 14::f 15::f 16::f 17::f 18::f 19::f 20::f 21::f 22::f 23::f 24::f 25::f 26::f 27::f 28::f 29::f 30::f 31::f 32::f 33::f 34::f 35::f 36::f 37::f 38::f 39::f 40::f 41::f 42::f 43::f 44::f 45::f 46::f 47::f 48::f 49::f 50::f 51::f 52::f 53::f 54::f 55::f 56::f 57::f 58::f 59::f 60::f 61::f 62::f 63::f 64::f 65::f 66::f 67::f 68::f 69::f 70::f 71::f 72::f 73::f 74::f 75::f 76::f 77::f 78::f 79::f 80::f 81::f 82::f 83::f 84::f 85::f 86::f 87::f 88::f 89::f 90::f 91::f 92::f 93::f 94::f 95::f 96::f 97::f 98::f 99::f 100::f 101::f 102::f 103::f 104::f 105::f 106::f 107::f 108::f 109::f 110::f 111::f 112::f 113::f 114::f 115::f 116::f 117::f 118::f 119::f 120::f 121::f 122::f 123::f 124::f 125::f 126::f 127::f 128::f 129::f 130::f 131::f 132::f 133::f 134::f 135::f 136::f 137::f 138::f 139::f 140::f 141::f 142::f 143::f 144::f 145::f 146::f 147::f 148::f 149::f 150::f 151::f 152::f 153::f 154::f 155::f 156::f 157::f 158::[]),defers:=[] }:=by
 refine ⟨sv a,λ_=>rfl,?_⟩
 obtain ⟨t,d⟩:=a
 simp only at hs hd
 subst hd
 have:=arr_lit' t hs
 exact congrArg (λt=>({ tmps:=t,defers:=[] }:Act)) (this.trans (by rfl))
end Go.Proofs.YtbennamieealbaaGreatDoor.Cx
