/-
  Parts of a proof, joined.
-/
import Derived.Test.YtbhpfkjfijdmaaaGreatDoorZv40
import Derived.Deep.DeepCutAuto
import Derived.Laws.StructEq
import Derived.Test.YtbhpfkjfijdmaaaGreatDoorZv36
import Derived.Test.YtbhpfkjfijdmaaaGreatDoorZv39
namespace Go.Proofs.YtbhpfkjfijdmaaaGreatDoor
open Go.ChangeShapes Go.WideShapes Go.ChangeAt Go.RowKit
set_option linter.unusedVariables false
set_option maxRecDepth 100000
set_option maxHeartbeats 3200000
def Tp.Rw (w:World) (v:Value) (n z:Nat) (xs:List Value):Prop:=xs.length=n * z/\((n=0 /\ ∃ a c,v = .slice a 0 c) \/ ∃ g o cap,v = .slice (some ⟨g,o,none⟩) n cap/\n<=cap/\g < w.heap.size /\ ∀ j x,xs[j]? = some x->w.cell? ⟨g,o+j,none⟩=some x)
section
variable {w w1 : World} {v : Value} {n z B : Nat} {xs : List Value} {t : TypeId}
theorem Tp.Rw.kept (h:Tp.Rw w v n z xs) (hb:Below w.heap.size w w1):Tp.Rw w1 v n z xs:=by
 obtain ⟨h0,h | ⟨g,o,cap,h1,h2,h3,h4⟩⟩:=h
 ·exact ⟨h0,Or.inl h⟩
 ·exact ⟨h0,Or.inr ⟨g,o,cap,h1,h2,Nat.lt_of_lt_of_le h3 hb.size,fun j x hj=>(hb.cell (p:=⟨g,o+j,none⟩) h3).trans (h4 j x hj)⟩⟩
theorem Tp.Rw.len (h:Tp.Rw w v n z xs):∃ a c,v = .slice a n c:=by
 obtain ⟨_,⟨h0,a,c,h1⟩ | ⟨g,o,cap,h1,_⟩⟩:=h
 ·exact ⟨a,c,by rw [h0];exact h1⟩
 ·exact ⟨_,_,h1⟩
end
theorem Tp.Rw.range {w:World} {v:Value} {n z:Nat} {xs:List Value} (h:Tp.Rw w v n z xs) {i:Nat} (hi:i < n) {row:List Value} (hr:∀ (j:Nat) (u:Value),row[j]? = some u->xs[i * z+j]? = some u):∃ g o cap,v = .slice (some ⟨g,o,none⟩) n cap/\g < w.heap.size/\w.rangeAt g (o+i * z) row:=by
 obtain ⟨_,⟨h0,_⟩ | ⟨g,o,cap,h1,h2,h3,h4⟩⟩:=h
 ·omega
 ·exact ⟨g,o,cap,h1,h3,fun j u hj=>by rw [Nat.add_assoc];exact h4 _ _ (hr j u hj)⟩
theorem Tp.neq_of {P:Program} {w:World} {t:TypeId} {xs ys:Array Value} (h:(binOp .eql t (.agg xs) (.agg ys)).run P w = .ok (.bool true) w):(binOp .neq t (.agg xs) (.agg ys)).run P w = .ok (.bool false) w:=by
 rw [run_eql_struct] at h
 rw [run_neq_struct]
 revert h
 generalize Sem.run P (Op.equalIn 10000 t _ _) w=r
 intro h
 cases r with
 | ok b w' =>
  have e:Result.ok (Value.bool b) w' = .ok (.bool true) w:=h
  injection e with e1 e2
  injection e1 with e3
  subst e3 e2
  rfl
 | _=>cases h
theorem Tp.exec_load {P:Program} {a:Act} {o:Oper} {w:World} (ty:TypeId) (x:Operand) (ho:o.op = .load ty x) (b off:Nat) (hx:a.eval x = .pointer (some ⟨b,off,none⟩)) (cs:List Value) (u:TypeDesc) (hc:w.rangeAt b off cs) (hu:P.underlying ty=some u) (hag:u.isRow=true) (hi:(P.info? ty).map (·.size)=some cs.length) :
 (execOp a.eval o).run P w = .ok (.value (.agg cs.toArray)) w:=by
 unfold execOp
 simp only [ho,hx,Sem.run_bind,run_loadAt_mid w b off ty cs u hc hu hag hi,Result.andThen_ok,Sem.run_pure]
theorem Tp.eq_in (c a v:Int) (w:World):(binOp .eql 54 (.agg #[.int .i64 c,.int .i64 a,.int .u8 v]) (.agg #[.int .i64 c,.int .i64 a,.int .u8 v])).run Tryz.prog w = .ok (.bool true) w:=by
 have u3:=Tryz.underlying3
 have x3:=Tryz.isAgg3
 have z3:=Tryz.sizeOf3
 have u5:=Tryz.underlying5
 have x5:=Tryz.isAgg5
 have z5:=Tryz.sizeOf5
 have hS:Tryz.prog.underlying 54=some (.struct (Tryz.prog.fieldsOf 54)):=by kernel_rfl
 have hp:Tryz.prog.stoodInHeld 54=false:=by kernel_rfl
 rw [run_eql_struct,show (10000:Nat)=9999+1 from rfl,run_equalIn_agg w 9999 54 _ _ hS hp]
 simp only [Program.fieldsOf,Tryz.underlying54]
 go_simp
theorem Tp.nq_in (x:Tp.In) (w:World):(binOp .neq 54 (.agg (Tp.ics [x]).toArray) (.agg (Tp.ics [x]).toArray)).run Tryz.prog w = .ok (.bool false) w:=Tp.neq_of (Tp.eq_in x.c x.p x.d w)
theorem Tp.ics_row:∀ (l:List Tp.In) (i:Nat) (x:Tp.In),l[i]? = some x->∀ (j:Nat) (v:Value),(Tp.ics [x])[j]? = some v->(Tp.ics l)[i * 3+j]? = some v
 | [],i,x,h=>by simp at h
 | y :: l,0,x,h=>fun j v hj=>by
  simp only [List.getElem?_cons_zero,Option.some.injEq] at h
  subst h
  rw [Nat.zero_mul,Nat.zero_add]
  match j,hj with
  | 0,hj=>exact hj
  | 1,hj=>exact hj
  | 2,hj=>exact hj
  | j+3,hj=>simp [Tp.ics] at hj
 | y :: l,i+1,x,h=>fun j v hj=>by
  rw [List.getElem?_cons_succ] at h
  have:=Tp.ics_row l i x h j v hj
  rw [show (i+1) * 3+j=i * 3+j+1+1+1 by omega]
  exact this
theorem Tp.ics_len:∀ l:List Tp.In,(Tp.ics l).length=l.length * 3
 | []=>rfl
 | x :: l=>by simp only [Tp.ics,List.length_cons,Tp.ics_len l];omega
theorem Tp.InAt.rw {B:Nat} {w:World} {v:Value} {l:List Tp.In} (h:Tp.InAt B w v l):Tp.Rw w v l.length 3 (Tp.ics l):=by
 rcases h with ⟨rfl,a,c,rfl⟩ | ⟨g,o,cap,h1,h2,h3,h4,h5⟩
 ·exact ⟨rfl,Or.inl ⟨rfl,a,c,rfl⟩⟩
 ·refine ⟨Tp.ics_len l,Or.inr ⟨g,o,cap,h1,h2,h4,fun j u hj=>?_⟩⟩
  have hjl:j < l.length * 3:=by rw [<- Tp.ics_len];exact (List.getElem?_eq_some_iff.1 hj).1
  obtain ⟨x,hx⟩:∃ x,l[j / 3]? = some x:=⟨_,List.getElem?_eq_getElem (by omega)⟩
  obtain ⟨q1,q2,q3⟩:=Tp.ics_at l (j / 3) x hx
  obtain ⟨c1,c2,c3⟩:=h5 (j / 3) x hx
  have hm:j % 3=0 \/ j % 3=1 \/ j % 3=2:=by omega
  rcases hm with e | e | e
  ·rw [show j=3 * (j / 3) by omega] at hj ⊢
   rw [q1] at hj;rw [<- hj];exact c1
  ·rw [show j=3 * (j / 3)+1 by omega] at hj ⊢
   rw [q2] at hj;rw [<- hj,<- Nat.add_assoc];exact c2
  ·rw [show j=3 * (j / 3)+2 by omega] at hj ⊢
   rw [q3] at hj;rw [<- hj,<- Nat.add_assoc];exact c3
theorem Tp.info_in2:(Tryz.prog.info? 54).map (·.size)=some 3:=by kernel_rfl
theorem Tp.sameIn (v1 v2:Value) (l:List Tp.In) (w:World) (h1:Tp.Rw w v1 l.length 3 (Tp.ics l)) (h2:Tp.Rw w v2 l.length 3 (Tp.ics l)) (hl:l.length<=1000000) :
 Calls Tryz.prog 37 #[v1,v2] w fun e w'=>e = .returned (.bool true)/\Below w.heap.size w w':=by
 obtain ⟨a1,k1,e1⟩:=h1.len
 obtain ⟨a2,k2,e2⟩:=h2.len
 subst e1 e2
 have H1:=hid h1
 have H2:=hid h2
 clear h1 h2
 go_enter Tryz.func37,Tryz.ntmps37
 go_wp2
 go_loopw [13] (fun i wr=>∃ j:Nat,j<=l.length/\i = .int .i64 j/\Below w.heap.size w wr) (fun i _=>l.length - (intOf i).toNat)
 case atStart=>exact ⟨0,Nat.zero_le _,rfl,st0 w⟩
 case round =>
  obtain ⟨j,hj,rfl,hb⟩:=hrel
  have HB:=hid hb
  by_cases hlt:j < l.length
  ·have hlt2:(j:Int) < l.length:=by omega
   have hj0:(0:Int)<=j:=by omega
   have hjs:(j:Int) < 1000000:=by omega
   obtain ⟨x,hx⟩:∃ x,l[j]? = some x:=⟨_,List.getElem?_eq_getElem hlt⟩
   obtain ⟨g1,o1,c1,q1,z1,r1⟩:=(H1.out.kept hb).range hlt (Tp.ics_row l j x hx)
   obtain ⟨g2,o2,c2,q2,z2,r2⟩:=(H2.out.kept hb).range hlt (Tp.ics_row l j x hx)
   cases q1
   cases q2
   have hnq:=Tp.nq_in x
   clear hb hx
   go_upto_region 6 with fail
   refine wp_region_held_drew (S:=fun w'=>w'.rangeAt g1 (o1+j * 3) (Tp.ics [x])/\w'.rangeAt g2 (o2+j * 3) (Tp.ics [x])) (by kernel_rfl) ⟨r1,r2⟩ ?_
   intro hS
   refine wpAnyH_take (i:=0) (oi:=⟨some 16,_,_,_,_,none⟩) (v:=?_) rfl (by kernel_rfl) (by kernel_rfl) (by kernel_rfl) (fun _ _ _ h=>h) (Or.inl ⟨by rfl,?_⟩) hS ?_
   rotate_left 1
   focus (intro w hSw;clear hSw;go_simp;try (with_reducible rfl))
   simp only [Act.put,xA,xB,xC]
   refine wpAnyH_take (i:=1) (oi:=⟨some 17,_,_,_,_,none⟩) (v:=?_) rfl (by kernel_rfl) (by kernel_rfl) (by kernel_rfl) (fun _ _ _ h=>h) (Or.inl ⟨by rfl,?_⟩) hS ?_
   rotate_left 1
   focus (intro w hSw;clear hSw;go_simp;try (with_reducible rfl))
   simp only [Act.put,xA,xB,xC]
   refine wpAnyH_take (i:=2) (oi:=⟨some 18,_,_,_,_,none⟩) (v:=?_) rfl (by kernel_rfl) (by kernel_rfl) (by kernel_rfl) (fun _ _ _ h=>h) (Or.inl ⟨by rfl,?_⟩) hS ?_
   rotate_left 1
   focus (intro w hSw;clear hSw;go_simp;try (with_reducible rfl))
   simp only [Act.put,xA,xB,xC]
   refine wpAnyH_take (i:=3) (oi:=⟨some 19,_,_,_,_,none⟩) (v:=.agg (Tp.ics [x]).toArray) rfl (by kernel_rfl) (by kernel_rfl) (by kernel_rfl) (fun _ _ _ h=>h) (Or.inl ⟨by rfl,fun w' hSw=>Tp.exec_load 54 _ rfl g1 (o1+j * 3) rfl (Tp.ics [x]) _ hSw.1 Tryz.underlying54 rfl Tp.info_in2⟩) hS ?_
   simp only [Act.put,xA,xB,xC]
   refine wpAnyH_take (i:=4) (oi:=⟨some 20,_,_,_,_,none⟩) (v:=?_) rfl (by kernel_rfl) (by kernel_rfl) (by kernel_rfl) (fun _ _ _ h=>h) (Or.inl ⟨by rfl,?_⟩) hS ?_
   rotate_left 1
   focus (intro w hSw;clear hSw;go_simp;try (with_reducible rfl))
   simp only [Act.put,xA,xB,xC]
   refine wpAnyH_take (i:=5) (oi:=⟨some 21,_,_,_,_,none⟩) (v:=?_) rfl (by kernel_rfl) (by kernel_rfl) (by kernel_rfl) (fun _ _ _ h=>h) (Or.inl ⟨by rfl,?_⟩) hS ?_
   rotate_left 1
   focus (intro w hSw;clear hSw;go_simp;try (with_reducible rfl))
   simp only [Act.put,xA,xB,xC]
   refine wpAnyH_take (i:=6) (oi:=⟨some 22,_,_,_,_,none⟩) (v:=?_) rfl (by kernel_rfl) (by kernel_rfl) (by kernel_rfl) (fun _ _ _ h=>h) (Or.inl ⟨by rfl,?_⟩) hS ?_
   rotate_left 1
   focus (intro w hSw;clear hSw;go_simp;try (with_reducible rfl))
   simp only [Act.put,xA,xB,xC]
   refine wpAnyH_take (i:=7) (oi:=⟨some 23,_,_,_,_,none⟩) (v:=.agg (Tp.ics [x]).toArray) rfl (by kernel_rfl) (by kernel_rfl) (by kernel_rfl) (fun _ _ _ h=>h) (Or.inl ⟨by rfl,fun w' hSw=>Tp.exec_load 54 _ rfl g2 (o2+j * 3) rfl (Tp.ics [x]) _ hSw.2 Tryz.underlying54 rfl Tp.info_in2⟩) hS ?_
   simp only [Act.put,xA,xB,xC]
   refine wpAnyH_take (i:=8) (oi:=⟨some 24,_,_,_,_,none⟩) (v:=?_) rfl (by kernel_rfl) (by kernel_rfl) (by kernel_rfl) (fun _ _ _ h=>h) (Or.inl ⟨by rfl,?_⟩) hS ?_
   rotate_left 1
   focus (intro w hSw;clear hSw;go_simp;try (with_reducible rfl))
   simp only [Act.put,xA,xB,xC]
   refine wpAnyH_done (by kernel_rfl) ?_ _
   clear hS r1 r2
   go_wp2
   exact ⟨⟨j+1,by omega,by simp,HB.out.drew⟩,by simp [intOf];omega⟩
  ·have hnl:¬ (j:Int) < l.length:=by omega
   clear hb
   go_wp2
   go_ret
   exact ⟨rfl,HB.out⟩
def Tp.r16 (f:Nat->Int):List Value:=[.int .u8 (f 0),.int .u8 (f 1),.int .u8 (f 2),.int .u8 (f 3),.int .u8 (f 4),.int .u8 (f 5),.int .u8 (f 6),.int .u8 (f 7),.int .u8 (f 8),.int .u8 (f 9),.int .u8 (f 10),.int .u8 (f 11),.int .u8 (f 12),.int .u8 (f 13),.int .u8 (f 14),.int .u8 (f 15)]
structure Tp.Ln where
 f:Int
 l:Int
 px:Nat->Int
def Tp.lnC (x:Tp.Ln):List Value:=.int .i64 x.f :: .int .i64 x.l :: Tp.r16 x.px
theorem Tp.lnC_len (x:Tp.Ln):(Tp.lnC x).length=18:=rfl
def Tp.lncs:List Tp.Ln->List Value
 | []=>[]
 | x :: l=>Tp.lnC x++Tp.lncs l
def Tp.pxs:List (Nat->Int)->List Value
 | []=>[]
 | x :: l=>Tp.r16 x++Tp.pxs l
theorem Tp.pxs_app:∀ l k:List (Nat->Int),Tp.pxs (l++k)=Tp.pxs l++Tp.pxs k
 | [],k=>rfl
 | x :: l,k=>by rw [List.cons_append,Tp.pxs,Tp.pxs_app l k,Tp.pxs,List.append_assoc]
theorem Tp.lncs_row:∀ (l:List Tp.Ln) (i:Nat) (x:Tp.Ln),l[i]? = some x->∀ (j:Nat) (v:Value),(Tp.lnC x)[j]? = some v->(Tp.lncs l)[i * 18+j]? = some v
 | [],i,x,h=>by simp at h
 | y :: l,0,x,h=>fun j v hj=>by
  simp only [List.getElem?_cons_zero,Option.some.injEq] at h
  subst h
  have hl:j < (Tp.lnC y).length:=(List.getElem?_eq_some_iff.1 hj).1
  rw [Nat.zero_mul,Nat.zero_add,Tp.lncs,List.getElem?_append_left hl]
  exact hj
 | y :: l,i+1,x,h=>fun j v hj=>by
  rw [List.getElem?_cons_succ] at h
  have:=Tp.lncs_row l i x h j v hj
  rw [Tp.lncs,List.getElem?_append_right (by rw [Tp.lnC_len];omega),Tp.lnC_len,show (i+1) * 18+j - 18=i * 18+j by omega]
  exact this
def Tp.pick (fr:Int):List Tp.Ln->List (Nat->Int)->List (Nat->Int)
 | [],acc=>acc
 | x :: l,acc=>Tp.pick fr l (if x.f=fr/\x.l=acc.length then acc++[x.px] else acc)
theorem Tp.pick_yes {fr:Int} {x:Tp.Ln} {l:List Tp.Ln} {acc:List (Nat->Int)} (h:x.f=fr/\x.l=acc.length):Tp.pick fr (x :: l) acc=Tp.pick fr l (acc++[x.px]):=by rw [Tp.pick,if_pos h]
theorem Tp.pick_no {fr:Int} {x:Tp.Ln} {l:List Tp.Ln} {acc:List (Nat->Int)} (h:¬ (x.f=fr/\x.l=acc.length)):Tp.pick fr (x :: l) acc=Tp.pick fr l acc:=by rw [Tp.pick,if_neg h]
theorem Tp.drop_cons {α:Type} {l:List α} {j:Nat} {x:α} (h:l[j]? = some x):l.drop j=x :: l.drop (j+1):=by
 obtain ⟨hlt,e⟩:=List.getElem?_eq_some_iff.1 h
 rw [List.drop_eq_getElem_cons hlt,e]
theorem Tp.info_ln:(Tryz.prog.info? 58).map (·.size)=some 18:=by kernel_rfl
theorem Tp.info_16:(Tryz.prog.info? 56).map (·.size)=some 16:=by kernel_rfl
theorem Tp.info_163:(Tryz.prog.info? 56).map (fun i=>(i.zero,i.size,i.bytes))=some (some (.agg (Tp.r16 (fun _=>0)).toArray),16,16):=by kernel_rfl
theorem Tp.sz16:(Value.agg (Tp.r16 (fun _=>0)).toArray).cells.size=16:=by kernel_rfl
theorem Tp.ln_one (x:Tp.Ln):(Tp.lnC x).toArray.all (·.oneCell')=true:=all_oneCell_toArray fun u hu=>by
 simp only [Tp.lnC,Tp.r16,List.mem_cons,List.not_mem_nil,or_false] at hu
 rcases hu with rfl | rfl | rfl | rfl | rfl | rfl | rfl | rfl | rfl | rfl | rfl | rfl | rfl | rfl | rfl | rfl | rfl | rfl <;> rfl
theorem Tp.bx_set {W:World} {b:Nat} {L:List Value} (h:Bx W b L) (vs:List Value) (hl:vs.length=L.length):Bx (W.setCells b 0 vs) b vs :=
 ⟨(h.puts 0 vs (by omega)).z,World.rangeAt_setCells_same W b 0 vs (h.there 0 vs.length (by omega)),(h.puts 0 vs (by omega)).f⟩
theorem Tp.px_one (f:Nat->Int):∀ u ∈ Tp.pxs [f],u.oneCell'=true:=fun u hu=>by
 simp only [Tp.pxs,Tp.r16,List.append_nil,List.mem_cons,List.not_mem_nil,or_false] at hu
 rcases hu with rfl | rfl | rfl | rfl | rfl | rfl | rfl | rfl | rfl | rfl | rfl | rfl | rfl | rfl | rfl | rfl <;> rfl
theorem Tp.run_b16 (f:Nat->Int) (w:World):(Instr.buildSlice 67 1 #[(0,.agg (Tp.r16 f).toArray)]).run Tryz.prog w = .ok (.slice (some ⟨w.heap.size,0,none⟩) 1 1) (w.alloc (.cells (Tp.r16 f).toArray 56)):=by kernel_rfl
theorem Tp.wpl_b16 {ops:Array Oper} {rest:List Oper} {o:Oper} {a:Act} {w:World} {Q:Exit->Act->World->Prop} (hgd:o.guard=none) (x:Operand) (ho:o.op = .buildSlice 67 1 #[(0,x)]) (f:Nat->Int) (hx:a.eval x = .agg (Tp.r16 f).toArray)
 (h:wpList Tryz.prog ops Q rest (a.put o.dst (.slice (some ⟨w.heap.size,0,none⟩) 1 1)) (w.alloc (.cells (Tp.r16 f).toArray 56))):wpList Tryz.prog ops Q (o :: rest) a w:=by
 refine wpList_plain hgd fun K hK=>?_
 have hr:=Tp.run_b16 f w
 generalize Tp.r16 f=L at *
 unfold Oper.wp
 simp [execOp,ho,hx,hr,Result.andThen]
 exact hK _ _ h
theorem Tp.px_cells (w:World) (f:Nat->Int) (t:TypeId) {b:Nat} (hb:b=w.heap.size):∀ j u,(Tp.pxs [f])[j]? = some u->(w.alloc (.cells (Tp.r16 f).toArray t)).cell? ⟨b,j,none⟩=some u:=fun j u hj=>by
 subst hb
 exact (Bx.new w (Tp.r16 f) t (b:=w.heap.size) rfl).at j u (by simpa [Tp.pxs] using hj)
theorem Tp.ln_box (w:World) (x:Tp.Ln) (t:TypeId):Below w.heap.size w ((w.alloc (.cells (Tp.lnC ⟨0,0,fun _=>0⟩).toArray t)).setCells w.heap.size 0 (Tp.lnC x))/\Bx ((w.alloc (.cells (Tp.lnC ⟨0,0,fun _=>0⟩).toArray t)).setCells w.heap.size 0 (Tp.lnC x)) w.heap.size (Tp.lnC x) :=
 ⟨Pl.below (Nat.le_refl _) _ 0 _ (stA (st0 w) _),Tp.bx_set (Bx.new w (Tp.lnC ⟨0,0,fun _=>0⟩) t (b:=w.heap.size) rfl) (Tp.lnC x) (by rw [Tp.lnC_len,Tp.lnC_len])⟩
theorem Tp.ln_there (w:World) (t:TypeId):(w.alloc (.cells (Tp.lnC ⟨0,0,fun _=>0⟩).toArray t)).there w.heap.size 0 18:=(Bx.new w (Tp.lnC ⟨0,0,fun _=>0⟩) t (b:=w.heap.size) rfl).there 0 18 (by rw [Tp.lnC_len];omega)
theorem Tp.ln_px {V:World} {b:Nat} {x:Tp.Ln} (h:Bx V b (Tp.lnC x)):V.rangeAt b 2 (Tp.r16 x.px):=fun j v hj=>h.at (2+j) v (by rw [Nat.add_comm];exact hj)
structure Tp.Fw (w : World) (fr : Int) (l : List Tp.Ln) (j : Nat) (acc : List (Nat -> Int)) (v : Value) (Y : World) : Prop where
 low:Below w.heap.size w Y
 row:Y.ownsRow w.heap.size 56 16 v acc.length (Tp.pxs acc)
 eq:Tp.pick fr (l.drop j) acc=Tp.pick fr l []
 le:acc.length<=j
theorem Tp.Fw.kept {w:World} {fr:Int} {l:List Tp.Ln} {j:Nat} {acc:List (Nat->Int)} {v:Value} {Y Y':World} (h:Tp.Fw w fr l j acc v Y) (hb:Below Y.heap.size Y Y'):Tp.Fw w fr l j acc v Y':=⟨stp h.low hb,Tp.row_kept h.row hb,h.eq,h.le⟩
def Tp.frmL (fr:Int) (l:List Tp.Ln):List (Nat->Int):=if (Tp.pick fr l []).length=8 then Tp.pick fr l [] else []
def Tp.frmE (fr:Int) (l:List Tp.Ln):Int:=if (Tp.pick fr l []).length=8 then 0 else 5
theorem Tp.frame_any (v v2 v3:Value) (l:List Tp.Ln) (fr:Int) (w:World) (h:Tp.Rw w v l.length 18 (Tp.lncs l)) (hl:l.length<=4398046511104) :
 Calls Tryz.prog 18 #[.agg #[v,v2,v3],.int .i64 fr] w fun e w'=>∃ u,e = .returned (.tuple #[u,.int .i64 (Tp.frmE fr l)])/\w'.ownsRow w.heap.size 56 16 u (Tp.frmL fr l).length (Tp.pxs (Tp.frmL fr l))/\Below w.heap.size w w':=by
 obtain ⟨a1,k1,rfl⟩:=h.len
 have H:=hid h
 have HL:=hid hl
 clear h hl
 go_enter Tryz.func18,Tryz.ntmps18
 go_wp2
 go_loopw [6,12] (fun u i wr=>∃ (j:Nat) (acc:List (Nat->Int)),j<=l.length/\i = .int .i64 j/\Tp.Fw w fr l j acc u wr) (fun _ i _=>l.length - (intOf i).toNat)
 case atStart=>exact ⟨0,[],Nat.zero_le _,rfl,stA (st0 w) _,⟨rfl,Or.inl ⟨rfl,rfl⟩⟩,rfl,Nat.le_refl _⟩
 case round =>
  obtain ⟨j,acc,hj,rfl,hw⟩:=hrel
  have HW:=hid hw
  have hle:=hw.le
  obtain ⟨ua,uc,rfl⟩:=Tp.row_len hw.row
  by_cases hlt:j < l.length
  ·have hlt2:(j:Int) < l.length:=by omega
   have hj0:(0:Int)<=j:=by omega
   have hw1:wrap64 ((j:Int)+1)=(j:Int)+1:=by have:=HL.out;unfold wrap64;omega
   have hw2:IntKind.i64.wrap ((j:Int)+1)=(j:Int)+1:=by have:=HL.out;simp [IntKind.wrap,IntKind.bits,IntKind.signed];omega
   obtain ⟨x,hx⟩:∃ x,l[j]? = some x:=⟨_,List.getElem?_eq_getElem hlt⟩
   obtain ⟨g,o,c,q1,z1,r1⟩:=(H.out.kept hw.low).range hlt (Tp.lncs_row l j x hx)
   cases q1
   have HR:=hid r1
   have HD:=hid (Tp.drop_cons hx)
   clear hw hx r1
   by_cases hq:x.f=fr/\x.l=acc.length
   ·obtain ⟨q1,q2⟩:=hq
    have HQ:=hid (And.intro q1 q2)
    have t1:(x.f == fr)=true:=by simpa using q1
    have t2:(x.l == (acc.length:Int))=true:=by simpa using q2
    clear q1 q2
    go_wp2_with (first
     | (refine Tp.wpl_b16 rfl _ rfl x.px rfl ?_)
     | (refine wpList_load_mid rfl 58 _ rfl g (o+j * 18) rfl (Tp.lnC x) _ HR.out Tryz.underlying58 rfl Tp.info_ln ?_)
     | (refine wpList_store_mid rfl 58 _ _ rfl wr.heap.size 0 (Tp.lnC x).toArray rfl rfl (Tp.ln_there wr _) Tp.info_ln (Tp.ln_one x) ?_;refine Pl.cutL (fun V=>Tp.Fw w fr l j acc (.slice ua acc.length uc) V/\Bx V wr.heap.size (Tp.lnC x)) ⟨HW.out.kept (Tp.ln_box wr x _).1,(Tp.ln_box wr x _).2⟩ ?_;rintro V ⟨p1,p2⟩;have HV:=hid p1;have HX:=hid p2;have y0:=p2.at 0 (.int .i64 x.f) rfl;have y1:=p2.at 1 (.int .i64 x.l) rfl;have yz:=p2.z;clear p1 p2)
     | (refine wpList_load_mid rfl 56 _ rfl wr.heap.size 2 rfl (Tp.r16 x.px) _ (Tp.ln_px HX.out) Tryz.underlying56 rfl Tp.info_16 ?_)
     | (at_builtin;have HV2:=hid (HV.out.kept (stA (st0 V) (.cells (Tp.r16 x.px).toArray 56)));refine Tp.appOne (v:=.slice ua acc.length uc) Tryz.underlying67 Tp.info_163 Tp.sz16 (by decide) (by rfl) _ _ (by rfl) (by rfl) HV2.out.row V.heap.size 1 (by rfl) (ys:=Tp.pxs [x.px]) rfl (Tp.px_cells V x.px _ rfl) (Tp.px_one x.px) (by have:=HL.out;omega) (by have:=HL.out;omega) HV2.out.low.size ?_;intro v' w' hown' hb'))
    refine ⟨⟨j+1,acc++[x.px],by omega,by simp,HV2.out.low.trans hb',?_,?_,?_⟩,by simp [intOf];omega⟩
    ·rw [List.length_append,Tp.pxs_app];exact hown'
    ·rw [<- HW.out.eq,HD.out,Tp.pick_yes HQ.out]
    ·simp;omega
   ·have HQ:=hid hq
    by_cases q1:x.f=fr
    ·have t1:(x.f == fr)=true:=by simpa using q1
     have t2:(x.l == (acc.length:Int))=false:=by rw [beq_eq_false_iff_ne];intro e;exact hq ⟨q1,e⟩
     clear hq q1
     go_wp2_with (first
      | (refine wpList_load_mid rfl 58 _ rfl g (o+j * 18) rfl (Tp.lnC x) _ HR.out Tryz.underlying58 rfl Tp.info_ln ?_)
      | (refine wpList_store_mid rfl 58 _ _ rfl wr.heap.size 0 (Tp.lnC x).toArray rfl rfl (Tp.ln_there wr _) Tp.info_ln (Tp.ln_one x) ?_;refine Pl.cutL (fun V=>Tp.Fw w fr l j acc (.slice ua acc.length uc) V/\Bx V wr.heap.size (Tp.lnC x)) ⟨HW.out.kept (Tp.ln_box wr x _).1,(Tp.ln_box wr x _).2⟩ ?_;rintro V ⟨p1,p2⟩;have HV:=hid p1;have HX:=hid p2;have y0:=p2.at 0 (.int .i64 x.f) rfl;have y1:=p2.at 1 (.int .i64 x.l) rfl;have yz:=p2.z;clear p1 p2))
     exact ⟨⟨j+1,acc,by omega,by simp,HV.out.low,HV.out.row,by rw [<- HW.out.eq,HD.out,Tp.pick_no HQ.out],by omega⟩,by simp [intOf];omega⟩
    ·have t1:(x.f == fr)=false:=by simpa using q1
     clear hq q1
     go_wp2_with (first
      | (refine wpList_load_mid rfl 58 _ rfl g (o+j * 18) rfl (Tp.lnC x) _ HR.out Tryz.underlying58 rfl Tp.info_ln ?_)
      | (refine wpList_store_mid rfl 58 _ _ rfl wr.heap.size 0 (Tp.lnC x).toArray rfl rfl (Tp.ln_there wr _) Tp.info_ln (Tp.ln_one x) ?_;refine Pl.cutL (fun V=>Tp.Fw w fr l j acc (.slice ua acc.length uc) V/\Bx V wr.heap.size (Tp.lnC x)) ⟨HW.out.kept (Tp.ln_box wr x _).1,(Tp.ln_box wr x _).2⟩ ?_;rintro V ⟨p1,p2⟩;have HV:=hid p1;have HX:=hid p2;have y0:=p2.at 0 (.int .i64 x.f) rfl;have y1:=p2.at 1 (.int .i64 x.l) rfl;have yz:=p2.z;clear p1 p2))
     exact ⟨⟨j+1,acc,by omega,by simp,HV.out.low,HV.out.row,by rw [<- HW.out.eq,HD.out,Tp.pick_no HQ.out],by omega⟩,by simp [intOf];omega⟩
  ·have hj2:j=l.length:=by omega
   subst hj2
   have hnl:¬ (l.length:Int) < l.length:=by omega
   have he:Tp.pick fr l []=acc:=by rw [<- hw.eq,List.drop_length];rfl
   have e1:Tp.frmL fr l=if acc.length=8 then acc else []:=by unfold Tp.frmL;rw [he]
   have e2:Tp.frmE fr l=if acc.length=8 then 0 else 5:=by unfold Tp.frmE;rw [he]
   by_cases h8:acc.length=8
   ·rw [if_pos h8] at e1 e2
    have HE:=hid (And.intro e1 e2)
    have h8':((acc.length:Int) != 8)=false:=by rw [h8];rfl
    clear hw he e1 e2 h8
    go_wp2
    go_ret2
    rw [HE.out.1,HE.out.2]
    exact ⟨_,rfl,HW.out.row,HW.out.low⟩
   ·rw [if_neg h8] at e1 e2
    have HE:=hid (And.intro e1 e2)
    have h8':((acc.length:Int) != 8)=true:=by rw [bne_iff_ne];omega
    clear hw he e1 e2 h8
    go_wp2
    go_ret2
    rw [HE.out.1,HE.out.2]
    exact ⟨_,rfl,⟨rfl,Or.inl ⟨rfl,rfl⟩⟩,HW.out.low⟩
def Tp.blk (f:Nat):List (Int × Int):=[((f:Int),0),((f:Int),1),((f:Int),2),((f:Int),3),((f:Int),4),((f:Int),5),((f:Int),6),((f:Int),7)]
def Tp.blks:Nat->List (Int × Int)
 | 0=>[]
 | f+1=>Tp.blks f++Tp.blk f
theorem Tp.at_line (f i:Nat) (h:i < 10):lineAt 0 0 0 (640 * f+64 * i)=if i < 8 then some ((f:Int),(i:Int)) else none:=by
 have h0:bmA 0 0 (640 * f+64 * i:Nat)=0:=by unfold bmA;omega
 have h1:bmL 0 0 (640 * f+64 * i:Nat)=i:=by unfold bmL;omega
 have h2:bmF 0 0 0 (640 * f+64 * i:Nat)=f:=by unfold bmF;omega
 unfold lineAt
 rw [h0,h1,h2]
 by_cases h8:i < 8
 ·rw [if_pos ⟨rfl,by omega⟩,if_pos h8]
 ·rw [if_neg (fun e=>by omega),if_neg h8]
theorem Tp.beg_at (f i:Nat):Beg 0 0 (640 * f+64 * i):=⟨by unfold bmA;omega,by omega⟩
theorem Tp.line_next (f i:Nat) (h:i < 10):linesAt 0 0 0 (640 * f+64 * (i+1))=linesAt 0 0 0 (640 * f+64 * i)++(if i < 8 then [((f:Int),(i:Int))] else []):=by
 have e:640 * f+64 * (i+1)=640 * f+64 * i+64:=by omega
 rw [e,(beg_next (f:=0) (Tp.beg_at f i)).2,Tp.at_line f i h]
 split <;> rfl
theorem Tp.frame_next (f:Nat):linesAt 0 0 0 (640 * (f+1))=linesAt 0 0 0 (640 * f)++Tp.blk f:=by
 have e:640 * (f+1)=640 * f+64 * (9+1):=by omega
 rw [e,Tp.line_next f 9 (by omega),Tp.line_next f 8 (by omega),Tp.line_next f 7 (by omega),Tp.line_next f 6 (by omega),Tp.line_next f 5 (by omega),Tp.line_next f 4 (by omega),Tp.line_next f 3 (by omega),Tp.line_next f 2 (by omega),Tp.line_next f 1 (by omega),Tp.line_next f 0 (by omega)]
 simp [Tp.blk]
theorem Tp.lines_frames:∀ f:Nat,linesAt 0 0 0 (640 * f)=Tp.blks f
 | 0=>rfl
 | f+1=>by rw [Tp.frame_next,Tp.lines_frames f];rfl
theorem Tp.blks_len:∀ f:Nat,(Tp.blks f).length=8 * f
 | 0=>rfl
 | f+1=>by rw [Tp.blks,List.length_append,Tp.blks_len f];simp [Tp.blk];omega
def Tp.ofLin (x:Lin):Tp.Ln:=⟨x.f,x.l,fun i=>(x.px i:Int)⟩
theorem Tp.pick_app (fr:Int):∀ (l k:List Tp.Ln) (acc:List (Nat->Int)),Tp.pick fr (l++k) acc=Tp.pick fr k (Tp.pick fr l acc)
 | [],k,acc=>rfl
 | x :: l,k,acc=>by rw [List.cons_append,Tp.pick,Tp.pick,Tp.pick_app fr l k]
theorem Tp.pick_skip (fr:Int):∀ (l:List Tp.Ln) (acc:List (Nat->Int)),(∀ x ∈ l,x.f ≠ fr)->Tp.pick fr l acc=acc
 | [],acc,_=>rfl
 | x :: l,acc,h=>by
  rw [Tp.pick_no (fun e=>h x (List.mem_cons_self ..) e.1)]
  exact Tp.pick_skip fr l acc (fun y hy=>h y (List.mem_cons_of_mem _ hy))
theorem Tp.pick_blk (f:Nat) (l:List Tp.Ln) (h:l.map (fun x=>(x.f,x.l))=Tp.blk f):(Tp.pick f l []).length=8:=by
 have hl:l.length=8:=by have h9:=congrArg List.length h;simpa [Tp.blk] using h9
 unfold Tp.blk at h
 match l,hl with
 | [x0,x1,x2,x3,x4,x5,x6,x7],_ =>
  simp only [List.map_cons,List.map_nil,List.cons.injEq,Prod.mk.injEq,and_true] at h
  obtain ⟨⟨a0,b0⟩,⟨a1,b1⟩,⟨a2,b2⟩,⟨a3,b3⟩,⟨a4,b4⟩,⟨a5,b5⟩,⟨a6,b6⟩,⟨a7,b7⟩⟩:=h
  simp [Tp.pick,a0,b0,a1,b1,a2,b2,a3,b3,a4,b4,a5,b5,a6,b6,a7,b7]
theorem Tp.blks_lt:∀ (f:Nat) (p:Int × Int),p ∈ Tp.blks f->0<=p.1/\p.1 < f
 | 0,p,h=>by simp [Tp.blks] at h
 | f+1,p,h=>by
  rw [Tp.blks] at h
  rcases List.mem_append.1 h with h | h
  ·have:=Tp.blks_lt f p h;omega
  ·simp [Tp.blk] at h
   rcases h with rfl | rfl | rfl | rfl | rfl | rfl | rfl | rfl <;> simp <;> omega
theorem Tp.fst_mem {l:List Tp.Ln} {ps:List (Int × Int)} (h:l.map (fun x=>(x.f,x.l))=ps) {x:Tp.Ln} (hx:x ∈ l):(x.f,x.l) ∈ ps:=by
 rw [<- h];exact List.mem_map_of_mem hx
theorem Tp.pick_in:∀ (F:Nat) (l:List Tp.Ln),l.map (fun x=>(x.f,x.l))=Tp.blks F->∀ k,k < F->(Tp.pick k l []).length=8
 | 0,l,h,k,hk=>by omega
 | F+1,l,h,k,hk=>by
  rw [Tp.blks] at h
  obtain ⟨l1,l2,rfl,h1,h2⟩:=List.map_eq_append_iff.1 h
  rw [Tp.pick_app]
  by_cases e:k=F
  ·subst e
   rw [Tp.pick_skip _ l1 [] (fun x hx e=>by have:=(Tp.blks_lt k _ (Tp.fst_mem h1 hx)).2;simp only at this;omega)]
   exact Tp.pick_blk k l2 h2
  ·rw [Tp.pick_skip _ l2 _ (fun x hx e=>by
    have hm:=Tp.fst_mem h2 hx
    simp [Tp.blk] at hm
    omega)]
   exact Tp.pick_in F l1 h1 k (by omega)
theorem Tp.pick_out {F:Nat} {l:List Tp.Ln} (h:l.map (fun x=>(x.f,x.l))=Tp.blks F):Tp.pick F l []=[] :=
 Tp.pick_skip _ l [] (fun x hx e=>by have:=(Tp.blks_lt F _ (Tp.fst_mem h hx)).2;simp only at this;omega)
theorem Tp.lncs_of:∀ l:List Lin,Tp.lncs (l.map Tp.ofLin)=lcs l
 | []=>rfl
 | x :: l=>by
  rw [List.map_cons,Tp.lncs,Tp.lncs_of l]
  rfl
end Go.Proofs.YtbhpfkjfijdmaaaGreatDoor
