/-
  Parts of a proof, joined.
-/
import Derived.Test.YtbhpfkjfijdmaaaGreatDoorZw37
import Derived.Test.YtbhpfkjfijdmaaaGreatDoorZw32
import Derived.Deep.AppendLies
import Derived.Test.YtbhpfkjfijdmaaaGreatDoorZw36
import Derived.Deep.RegionHeld3
namespace Go.Proofs.YtbhpfkjfijdmaaaGreatDoor
open Go.ChangeShapes Go.WideShapes Go.ChangeAt Go.RowKit
set_option linter.unusedVariables false
set_option maxRecDepth 100000
set_option maxHeartbeats 1600000
def RwAt (w:World) (v:Value) (n z:Nat) (xs:List Value):Prop:=xs.length=n * z/\((n=0 /\ ∃ a c,v = .slice a 0 c) \/ ∃ g o cap,v = .slice (some ⟨g,o,none⟩) n cap/\n<=cap/\g < w.heap.size /\ ∀ j x,xs[j]? = some x->w.cell? ⟨g,o+j,none⟩=some x)
theorem row_len2 {w:World} {B z n:Nat} {t:TypeId} {v:Value} {xs:List Value} (h:w.ownsRow B t z v n xs):∃ a c,v = .slice a n c:=by
 rcases h.2 with ⟨e0,e1⟩ | ⟨g,cap,cur,e0,_⟩
 ·exact ⟨none,0,by rw [e0,e1]⟩
 ·exact ⟨_,_,e0⟩
section
variable {w w1 : World} {v : Value} {n z B : Nat} {xs : List Value} {t : TypeId}
theorem RwAt.kept (h:RwAt w v n z xs) (hb:Below w.heap.size w w1):RwAt w1 v n z xs:=by
 obtain ⟨h0,h | ⟨g,o,cap,h1,h2,h3,h4⟩⟩:=h
 ·exact ⟨h0,Or.inl h⟩
 ·exact ⟨h0,Or.inr ⟨g,o,cap,h1,h2,Nat.lt_of_lt_of_le h3 hb.size,fun j x hj=>(hb.cell (p:=⟨g,o+j,none⟩) h3).trans (h4 j x hj)⟩⟩
theorem RwAt.len (h:RwAt w v n z xs):∃ a c,v = .slice a n c:=by
 obtain ⟨_,⟨h0,a,c,h1⟩ | ⟨g,o,cap,h1,_⟩⟩:=h
 ·exact ⟨a,c,by rw [h0];exact h1⟩
 ·exact ⟨_,_,h1⟩
theorem row_own (h:w.ownsRow B t z v n xs):RwAt w v n z xs:=by
 refine ⟨h.1,?_⟩
 by_cases h0:n=0
 ·obtain ⟨a,c,e⟩:=row_len2 h
  exact Or.inl ⟨h0,a,c,by rw [<- h0];exact e⟩
 ·obtain ⟨g,cap,e,h1,h2,h3⟩:=row_cells h (by omega)
  exact Or.inr ⟨g,0,cap,e,h1,h2,fun j x hj=>by rw [Nat.zero_add];exact h3 j x hj⟩
theorem appNoRow {ts:TypeId} (hts:Tryz.prog.underlying ts=some (.slice t)) (i:TypeInfo) (hi:Tryz.prog.info? t=some i) (ty:TypeId) (hown:w.ownsRow B t z v n xs) (a:Option Addr) (c:Nat) :
 (Builtin.append_ #[ts,ts] ty #[v,.slice a 0 c]).run Tryz.prog w = .ok v w:=by
 have hu:=run_underlying (P:=Tryz.prog) hts
 have hf:(Builtin.firstCells i.size 0 (.slice a 0 c)).run Tryz.prog w = .ok #[] w:=by
  cases a with
  | none=>exact run_firstCells_none w i.size 0 0 c
  | some a=>exact run_firstCells_some w i.size 0 a 0 c [] (by simp) (fun j v hj=>by simp at hj)
 rcases hown.2 with ⟨rfl,rfl⟩ | ⟨g,cap,cur,rfl,_,_,hnc,_⟩
 ·simp [Builtin.append_,hu,sizeOf,typeInfo,hi,Builtin.lenOf,hf]
 ·simp [Builtin.append_,hu,sizeOf,typeInfo,hi,Builtin.lenOf,hf,hnc,storeCells]
theorem wpList_appRow {ops:Array Oper} {rest:List Oper} {o:Oper} {a:Act} {Q:Exit->Act->World->Prop} {ts:TypeId} {zv:Value} {y:Nat} (hts:Tryz.prog.underlying ts=some (.slice t)) (hinf:(Tryz.prog.info? t).map (fun i=>(i.zero,i.size,i.bytes))=some (some zv,z,y)) (hzs:zv.cells.size=z) (hz:0 < z) (hy:y<=64)
 (hgd:o.guard=none) (s x:Operand) (ho:o.op = .call { callee:=.builtin .append,args:=#[s,x],argTypes:=#[ts,ts] }) (hs:a.eval s=v) (hown:w.ownsRow B t z v n xs) (xv:Value) (hx:a.eval x=xv) {m:Nat} {ys:List Value} (hl:RwAt w xv m z ys) (h1:∀ u ∈ ys,u.oneCell'=true) (hb:n+m<=100000) (hB:B<=w.heap.size)
 (h:∀ v' w',w'.ownsRow B t z v' (n+m) (xs++ys)->Below B w w'->wpList Tryz.prog ops Q rest (a.put o.dst v') w'):wpList Tryz.prog ops Q (o :: rest) a w:=by
 obtain ⟨i0,hi0,hz0,hz1,hz2⟩:=info_parts hinf
 by_cases hm:m=0
 ·subst hm
  obtain ⟨ad,c,rfl⟩:=hl.len
  have hy0:ys=[]:=List.eq_nil_of_length_eq_zero (by rw [hl.1];omega)
  refine wpList_plain hgd fun K hK=>?_
  have hrun:=appNoRow hts i0 hi0 o.type hown ad c
  unfold Oper.wp
  simp [execOp,ho,resolve,invoke,builtin,hs,hx,hrun,Result.andThen]
  exact hK _ _ (h v w (by rw [hy0];simpa using hown) (Below.refl _ _))
 ·obtain ⟨hl0,hl1 | ⟨g,o',c,e1,e2,e3,e4⟩⟩:=hl
  ·exact absurd hl1.1 hm
  ·refine wpList_append_lies _ hgd s x _ ho B t i0 zv z y hts hi0 hz0 hz1 hz2 hzs hz v n xs hs hown ⟨g,o',none⟩ m c ys (hx.trans e1) hl0 (fun j u hj=>by rw [addr_add];exact e4 j u hj) h1 (by omega) (by unfold maxLen;omega) (Nat.le_trans (Nat.mul_le_mul hb hy) (by decide)) hB w.heap.size rfl ?_
   intro g' cap w' hown' hgrow _ _
   exact h _ w' hown' ((Below.refl B w).grown hgrow hB (fun k hk=>(hown.lt k hk).1))
end
/-! ### lines -/
def gRenLn:Go.Shelf.Ren:=⟨fun | 4=>29 | n=>n,fun | 0=>0 | 3=>3 | 4=>4 | 9=>9 | 20=>20 | 22=>47 | 25=>58 | n=>n,fun | n=>n⟩
theorem gLayLn:Go.Proofs.Lays8.n4 Tryz.prog gRenLn:={
 mixed:=by kernel_rfl
 f4:=⟨Tryz.f29.name,by kernel_rfl,Tryz.func29.trans (congrArg some (by kernel_rfl))⟩
 t0:=Tryz.underlying0
 a0:=Tryz.isAgg0
 z0:=Tryz.sizeOf0
 v0:=Tryz.zeroValue0
 t3:=Tryz.underlying3
 a3:=Tryz.isAgg3
 z3:=Tryz.sizeOf3
 v3:=Tryz.zeroValue3
 t4:=Tryz.underlying4
 a4:=Tryz.isAgg4
 z4:=Tryz.sizeOf4
 v4:=Tryz.zeroValue4
 t9:=Tryz.underlying9
 a9:=Tryz.isAgg9
 z9:=Tryz.sizeOf9
 v9:=Tryz.zeroValue9
 t20:=Tryz.underlying20
 a20:=Tryz.isAgg20
 z20:=Tryz.sizeOf20
 v20:=Tryz.zeroValue20
 t22:=Tryz.underlying47
 a22:=Tryz.isAgg47
 z22:=Tryz.sizeOf47
 v22:=Tryz.zeroValue47 }
theorem grow0Ln (w:World):Calls Tryz.prog 29 #[.slice none 0 0,.int .i64 0] w fun e w'=>e = .returned (.slice none 0 0)/\w'=w :=
 Any8.slices_Grow_room gLayLn none 0 0 0 w (by omega) (by omega) (by omega) (by omega)
theorem grow1Ln (n:Nat) (h0:0 < n) (h1:n<=100000) (w:World):Calls Tryz.prog 29 #[.slice none 0 0,.int .i64 n] w fun e w'=>∃ cap,e = .returned (.slice (some ⟨w.heap.size,0,none⟩) 0 cap)/\w'.ownsRow w.heap.size 58 18 (.slice (some ⟨w.heap.size,0,none⟩) 0 cap) 0 []/\Below w.heap.size w w':=by
 obtain ⟨i0,hi0,hz0,hz1,hz2⟩:=info_parts info_line
 refine (Any8.slices_Grow_grow gLayLn i0 _ hi0 hz0 (by omega) none 0 0 n [] w (by omega) (by omega) (by rw [hz2];omega) (by omega) (by simp) (fun _=>rfl) (fun a h=>by cases h)).mono fun e w' hh=>?_
 obtain ⟨he,hw⟩:=hh
 have hge:=grownCap_ge w (0+n) 0 (gRenLn.t 25)
 have hle:=grownCap_le_maxLen w (0+n) 0 (gRenLn.t 25) (by unfold maxLen;omega)
 refine ⟨_,he,?_,?_⟩
 ·rw [hw]
  refine ⟨by simp,Or.inr ⟨w.heap.size,_,_,rfl,Nat.le_refl _,heap_alloc_new w.drew _,by omega,hle,?_,by simp⟩⟩
  have e1:(.agg (lineL 0 0 fun _=>0).toArray:Value).cells.size=18:=rfl
  simp only [Array.size_append,List.size_toArray,size_zeroCells,e1,List.length_nil]
  omega
 ·rw [hw];exact stA (st0 w).drew _
theorem catLn (g:Nat) (v1 v2:Value) (n1 n2:Nat) (x1 x2:List Value) (w:World) (h1:RwAt w v1 n1 18 x1) (h2:RwAt w v2 n2 18 x2) (q1:∀ u ∈ x1,u.oneCell'=true) (q2:∀ u ∈ x2,u.oneCell'=true) (c1:w.cell? ⟨g,0,none⟩=some v1) (c2:w.cell? ⟨g,1,none⟩=some v2) (hl:n1+n2<=100000) :
 Calls Tryz.prog 11 #[.slice (some ⟨g,0,none⟩) 2 2] w fun e w'=>∃ v,e = .returned v/\w'.ownsRow w.heap.size 58 18 v (n1+n2) (x1++x2)/\Below w.heap.size w w':=by
 have hg:g < w.heap.size:=World.block_lt_of_cell? w _ c1
 have H1:=hid h1
 have H2:=hid h2
 obtain ⟨a1,k1,e1⟩:=h1.len
 obtain ⟨a2,k2,e2⟩:=h2.len
 subst e1 e2
 have Q1:=hid q1
 have Q2:=hid q2
 clear h1 h2 q1 q2
 have b1:¬ (n1:Int) < 0:=by omega
 have b2:¬ ((n1:Int)+n2) < 0:=by omega
 go_enter Tryz.func11,Tryz.ntmps11
 go_wp2
 go_loop [3,11] (fun n i=>(i = .int .i64 0/\n = .int .i64 0) \/ (i = .int .i64 1/\n = .int .i64 n1) \/ (i = .int .i64 2/\n = .int .i64 (n1+n2))) (fun _ i=>2 - (intOf i).toNat)
 case atStart=>exact Or.inl ⟨rfl,rfl⟩
 case round =>
  rcases hrel with ⟨rfl,rfl⟩ | ⟨rfl,rfl⟩ | ⟨rfl,rfl⟩
  ·go_wp2
   exact ⟨Or.inr (Or.inl ⟨rfl,rfl⟩),by decide⟩
  ·go_wp2
   exact ⟨Or.inr (Or.inr ⟨rfl,rfl⟩),by decide⟩
  ·have HG:Hid (∀ W:World,Calls Tryz.prog 29 #[.slice none 0 0,.int .i64 ((n1:Int)+n2)] W fun e w'=>∃ v,e = .returned v/\w'.ownsRow W.heap.size 58 18 v 0 []/\Below W.heap.size W w'):=by
    intro W
    by_cases h0:n1+n2=0
    ·have e0:((n1:Int)+n2)=0:=by omega
     rw [e0]
     exact (grow0Ln W).mono fun e w' hh=>⟨_,hh.1,⟨rfl,Or.inl ⟨rfl,rfl⟩⟩,hh.2 ▸ st0 W⟩
    ·have e0:((n1:Int)+n2)=((n1+n2:Nat):Int):=by omega
     rw [e0]
     exact (grow1Ln _ (by omega) hl W).mono fun e w' ⟨cap,he,ho,hb⟩=>⟨_,he,ho,hb⟩
   go_wp2_with (go_at_call 29;refine (HG.out _).mono ?_;rintro e w1 ⟨v,rfl,hv,hb1⟩;have HV:=hid hv;clear hv)
   go_loopw [6,27] (fun s i wr=>∃ (n:Nat) (xs:List Value),wr.ownsRow w.heap.size 58 18 s n xs/\Below w.heap.size w wr/\((i = .int .i64 0/\n=0/\xs=[]) \/ (i = .int .i64 1/\n=n1/\xs=x1) \/ (i = .int .i64 2/\n=n1+n2/\xs=x1++x2))) (fun _ i _=>2 - (intOf i).toNat)
   case atStart=>exact ⟨0,[],HV.out,hb1,Or.inl ⟨rfl,rfl,rfl⟩⟩
   case round =>
    obtain ⟨n,xs,hown,hbl,hcase⟩:=hrel
    have HO:=hid hown
    have hsz:=hbl.size
    obtain ⟨kk,ff⟩:=bcell hbl
    clear hown
    rcases hcase with ⟨rfl,hn0,hx0⟩ | ⟨rfl,hn0,hx0⟩ | ⟨rfl,hn0,hx0⟩
    ·have hxs:=hid hx0
     have hns:=hid hn0
     have hbd:n+n1<=100000:=by omega
     clear hx0 hn0
     go_wp2_with (at_builtin;refine wpList_appRow Tryz.underlying47 info_line rfl (by omega) (by omega) (by rfl) _ _ (by rfl) (by rfl) HO.out _ (by rfl) (H1.out.kept hbl) Q1.out hbd hsz ?_;intro v' w' hown' hb')
     refine ⟨⟨n1,x1,?_,hbl.trans hb',Or.inr (Or.inl ⟨rfl,rfl,rfl⟩)⟩,by decide⟩
     rw [hxs.out,hns.out] at hown'
     simpa using hown'
    ·have hxs:=hid hx0
     have hns:=hid hn0
     have hbd:n+n2<=100000:=by omega
     clear hx0 hn0
     go_wp2_with (at_builtin;refine wpList_appRow Tryz.underlying47 info_line rfl (by omega) (by omega) (by rfl) _ _ (by rfl) (by rfl) HO.out _ (by rfl) (H2.out.kept hbl) Q2.out hbd hsz ?_;intro v' w' hown' hb')
     refine ⟨⟨n1+n2,x1++x2,?_,hbl.trans hb',Or.inr (Or.inr ⟨rfl,rfl,rfl⟩)⟩,by decide⟩
     rw [hxs.out,hns.out] at hown'
     exact hown'
    ·have hxs:=hid hx0
     have hns:=hid hn0
     clear hx0 hn0
     go_wp2
     go_ret
     have ho:=HO.out
     rw [hxs.out,hns.out] at ho
     exact ⟨_,rfl,ho,hbl⟩
/-! ### writes -/
def gRenWr:Go.Shelf.Ren:=⟨fun | 4=>31 | n=>n,fun | 0=>0 | 3=>3 | 4=>4 | 9=>9 | 20=>20 | 22=>48 | 25=>62 | n=>n,fun | n=>n⟩
theorem gLayWr:Go.Proofs.Lays8.n4 Tryz.prog gRenWr:={
 mixed:=by kernel_rfl
 f4:=⟨Tryz.f31.name,by kernel_rfl,Tryz.func31.trans (congrArg some (by kernel_rfl))⟩
 t0:=Tryz.underlying0
 a0:=Tryz.isAgg0
 z0:=Tryz.sizeOf0
 v0:=Tryz.zeroValue0
 t3:=Tryz.underlying3
 a3:=Tryz.isAgg3
 z3:=Tryz.sizeOf3
 v3:=Tryz.zeroValue3
 t4:=Tryz.underlying4
 a4:=Tryz.isAgg4
 z4:=Tryz.sizeOf4
 v4:=Tryz.zeroValue4
 t9:=Tryz.underlying9
 a9:=Tryz.isAgg9
 z9:=Tryz.sizeOf9
 v9:=Tryz.zeroValue9
 t20:=Tryz.underlying20
 a20:=Tryz.isAgg20
 z20:=Tryz.sizeOf20
 v20:=Tryz.zeroValue20
 t22:=Tryz.underlying48
 a22:=Tryz.isAgg48
 z22:=Tryz.sizeOf48
 v22:=Tryz.zeroValue48 }
theorem grow0Wr (w:World):Calls Tryz.prog 31 #[.slice none 0 0,.int .i64 0] w fun e w'=>e = .returned (.slice none 0 0)/\w'=w :=
 Any8.slices_Grow_room gLayWr none 0 0 0 w (by omega) (by omega) (by omega) (by omega)
theorem grow1Wr (n:Nat) (h0:0 < n) (h1:n<=100000) (w:World):Calls Tryz.prog 31 #[.slice none 0 0,.int .i64 n] w fun e w'=>∃ cap,e = .returned (.slice (some ⟨w.heap.size,0,none⟩) 0 cap)/\w'.ownsRow w.heap.size 62 3 (.slice (some ⟨w.heap.size,0,none⟩) 0 cap) 0 []/\Below w.heap.size w w':=by
 obtain ⟨i0,hi0,hz0,hz1,hz2⟩:=info_parts info_write
 refine (Any8.slices_Grow_grow gLayWr i0 _ hi0 hz0 (by omega) none 0 0 n [] w (by omega) (by omega) (by rw [hz2];omega) (by omega) (by simp) (fun _=>rfl) (fun a h=>by cases h)).mono fun e w' hh=>?_
 obtain ⟨he,hw⟩:=hh
 have hge:=grownCap_ge w (0+n) 0 (gRenWr.t 25)
 have hle:=grownCap_le_maxLen w (0+n) 0 (gRenWr.t 25) (by unfold maxLen;omega)
 refine ⟨_,he,?_,?_⟩
 ·rw [hw]
  refine ⟨by simp,Or.inr ⟨w.heap.size,_,_,rfl,Nat.le_refl _,heap_alloc_new w.drew _,by omega,hle,?_,by simp⟩⟩
  have e1:(.agg #[.int .i64 0,.int .i64 0,.int .u8 0]:Value).cells.size=3:=rfl
  simp only [Array.size_append,List.size_toArray,size_zeroCells,e1,List.length_nil]
  omega
 ·rw [hw];exact stA (st0 w).drew _
theorem catWr (g:Nat) (v1 v2:Value) (n1 n2:Nat) (x1 x2:List Value) (w:World) (h1:RwAt w v1 n1 3 x1) (h2:RwAt w v2 n2 3 x2) (q1:∀ u ∈ x1,u.oneCell'=true) (q2:∀ u ∈ x2,u.oneCell'=true) (c1:w.cell? ⟨g,0,none⟩=some v1) (c2:w.cell? ⟨g,1,none⟩=some v2) (hl:n1+n2<=100000) :
 Calls Tryz.prog 13 #[.slice (some ⟨g,0,none⟩) 2 2] w fun e w'=>∃ v,e = .returned v/\w'.ownsRow w.heap.size 62 3 v (n1+n2) (x1++x2)/\Below w.heap.size w w':=by
 have hg:g < w.heap.size:=World.block_lt_of_cell? w _ c1
 have H1:=hid h1
 have H2:=hid h2
 obtain ⟨a1,k1,e1⟩:=h1.len
 obtain ⟨a2,k2,e2⟩:=h2.len
 subst e1 e2
 have Q1:=hid q1
 have Q2:=hid q2
 clear h1 h2 q1 q2
 have b1:¬ (n1:Int) < 0:=by omega
 have b2:¬ ((n1:Int)+n2) < 0:=by omega
 go_enter Tryz.func13,Tryz.ntmps13
 go_wp2
 go_loop [3,11] (fun n i=>(i = .int .i64 0/\n = .int .i64 0) \/ (i = .int .i64 1/\n = .int .i64 n1) \/ (i = .int .i64 2/\n = .int .i64 (n1+n2))) (fun _ i=>2 - (intOf i).toNat)
 case atStart=>exact Or.inl ⟨rfl,rfl⟩
 case round =>
  rcases hrel with ⟨rfl,rfl⟩ | ⟨rfl,rfl⟩ | ⟨rfl,rfl⟩
  ·go_wp2
   exact ⟨Or.inr (Or.inl ⟨rfl,rfl⟩),by decide⟩
  ·go_wp2
   exact ⟨Or.inr (Or.inr ⟨rfl,rfl⟩),by decide⟩
  ·have HG:Hid (∀ W:World,Calls Tryz.prog 31 #[.slice none 0 0,.int .i64 ((n1:Int)+n2)] W fun e w'=>∃ v,e = .returned v/\w'.ownsRow W.heap.size 62 3 v 0 []/\Below W.heap.size W w'):=by
    intro W
    by_cases h0:n1+n2=0
    ·have e0:((n1:Int)+n2)=0:=by omega
     rw [e0]
     exact (grow0Wr W).mono fun e w' hh=>⟨_,hh.1,⟨rfl,Or.inl ⟨rfl,rfl⟩⟩,hh.2 ▸ st0 W⟩
    ·have e0:((n1:Int)+n2)=((n1+n2:Nat):Int):=by omega
     rw [e0]
     exact (grow1Wr _ (by omega) hl W).mono fun e w' ⟨cap,he,ho,hb⟩=>⟨_,he,ho,hb⟩
   go_wp2_with (go_at_call 31;refine (HG.out _).mono ?_;rintro e w1 ⟨v,rfl,hv,hb1⟩;have HV:=hid hv;clear hv)
   go_loopw [6,27] (fun s i wr=>∃ (n:Nat) (xs:List Value),wr.ownsRow w.heap.size 62 3 s n xs/\Below w.heap.size w wr/\((i = .int .i64 0/\n=0/\xs=[]) \/ (i = .int .i64 1/\n=n1/\xs=x1) \/ (i = .int .i64 2/\n=n1+n2/\xs=x1++x2))) (fun _ i _=>2 - (intOf i).toNat)
   case atStart=>exact ⟨0,[],HV.out,hb1,Or.inl ⟨rfl,rfl,rfl⟩⟩
   case round =>
    obtain ⟨n,xs,hown,hbl,hcase⟩:=hrel
    have HO:=hid hown
    have hsz:=hbl.size
    obtain ⟨kk,ff⟩:=bcell hbl
    clear hown
    rcases hcase with ⟨rfl,hn0,hx0⟩ | ⟨rfl,hn0,hx0⟩ | ⟨rfl,hn0,hx0⟩
    ·have hxs:=hid hx0
     have hns:=hid hn0
     have hbd:n+n1<=100000:=by omega
     clear hx0 hn0
     go_wp2_with (at_builtin;refine wpList_appRow Tryz.underlying48 info_write rfl (by omega) (by omega) (by rfl) _ _ (by rfl) (by rfl) HO.out _ (by rfl) (H1.out.kept hbl) Q1.out hbd hsz ?_;intro v' w' hown' hb')
     refine ⟨⟨n1,x1,?_,hbl.trans hb',Or.inr (Or.inl ⟨rfl,rfl,rfl⟩)⟩,by decide⟩
     rw [hxs.out,hns.out] at hown'
     simpa using hown'
    ·have hxs:=hid hx0
     have hns:=hid hn0
     have hbd:n+n2<=100000:=by omega
     clear hx0 hn0
     go_wp2_with (at_builtin;refine wpList_appRow Tryz.underlying48 info_write rfl (by omega) (by omega) (by rfl) _ _ (by rfl) (by rfl) HO.out _ (by rfl) (H2.out.kept hbl) Q2.out hbd hsz ?_;intro v' w' hown' hb')
     refine ⟨⟨n1+n2,x1++x2,?_,hbl.trans hb',Or.inr (Or.inr ⟨rfl,rfl,rfl⟩)⟩,by decide⟩
     rw [hxs.out,hns.out] at hown'
     exact hown'
    ·have hxs:=hid hx0
     have hns:=hid hn0
     clear hx0 hn0
     go_wp2
     go_ret
     have ho:=HO.out
     rw [hxs.out,hns.out] at ho
     exact ⟨_,rfl,ho,hbl⟩
/-! ### bytes -/
def gRenBy:Go.Shelf.Ren:=⟨fun | 4=>30 | n=>n,fun | 0=>0 | 3=>3 | 4=>4 | 9=>9 | 20=>20 | 22=>26 | 25=>5 | n=>n,fun | n=>n⟩
theorem gLayBy:Go.Proofs.Lays8.n4 Tryz.prog gRenBy:={
 mixed:=by kernel_rfl
 f4:=⟨Tryz.f30.name,by kernel_rfl,Tryz.func30.trans (congrArg some (by kernel_rfl))⟩
 t0:=Tryz.underlying0
 a0:=Tryz.isAgg0
 z0:=Tryz.sizeOf0
 v0:=Tryz.zeroValue0
 t3:=Tryz.underlying3
 a3:=Tryz.isAgg3
 z3:=Tryz.sizeOf3
 v3:=Tryz.zeroValue3
 t4:=Tryz.underlying4
 a4:=Tryz.isAgg4
 z4:=Tryz.sizeOf4
 v4:=Tryz.zeroValue4
 t9:=Tryz.underlying9
 a9:=Tryz.isAgg9
 z9:=Tryz.sizeOf9
 v9:=Tryz.zeroValue9
 t20:=Tryz.underlying20
 a20:=Tryz.isAgg20
 z20:=Tryz.sizeOf20
 v20:=Tryz.zeroValue20
 t22:=Tryz.underlying26
 a22:=Tryz.isAgg26
 z22:=Tryz.sizeOf26
 v22:=Tryz.zeroValue26 }
theorem grow0By (w:World):Calls Tryz.prog 30 #[.slice none 0 0,.int .i64 0] w fun e w'=>e = .returned (.slice none 0 0)/\w'=w :=
 Any8.slices_Grow_room gLayBy none 0 0 0 w (by omega) (by omega) (by omega) (by omega)
theorem grow1By (n:Nat) (h0:0 < n) (h1:n<=100000) (w:World):Calls Tryz.prog 30 #[.slice none 0 0,.int .i64 n] w fun e w'=>∃ cap,e = .returned (.slice (some ⟨w.heap.size,0,none⟩) 0 cap)/\w'.ownsRow w.heap.size 5 1 (.slice (some ⟨w.heap.size,0,none⟩) 0 cap) 0 []/\Below w.heap.size w w':=by
 obtain ⟨i0,hi0,hz0,hz1,hz2⟩:=info_parts info_byte
 refine (Any8.slices_Grow_grow gLayBy i0 _ hi0 hz0 (by omega) none 0 0 n [] w (by omega) (by omega) (by rw [hz2];omega) (by omega) (by simp) (fun _=>rfl) (fun a h=>by cases h)).mono fun e w' hh=>?_
 obtain ⟨he,hw⟩:=hh
 have hge:=grownCap_ge w (0+n) 0 (gRenBy.t 25)
 have hle:=grownCap_le_maxLen w (0+n) 0 (gRenBy.t 25) (by unfold maxLen;omega)
 refine ⟨_,he,?_,?_⟩
 ·rw [hw]
  refine ⟨by simp,Or.inr ⟨w.heap.size,_,_,rfl,Nat.le_refl _,heap_alloc_new w.drew _,by omega,hle,?_,by simp⟩⟩
  have e1:(.int .u8 0:Value).cells.size=1:=rfl
  simp only [Array.size_append,List.size_toArray,size_zeroCells,e1,List.length_nil]
  omega
 ·rw [hw];exact stA (st0 w).drew _
theorem catBy (g:Nat) (v1 v2:Value) (n1 n2:Nat) (x1 x2:List Value) (w:World) (h1:RwAt w v1 n1 1 x1) (h2:RwAt w v2 n2 1 x2) (q1:∀ u ∈ x1,u.oneCell'=true) (q2:∀ u ∈ x2,u.oneCell'=true) (c1:w.cell? ⟨g,0,none⟩=some v1) (c2:w.cell? ⟨g,1,none⟩=some v2) (hl:n1+n2<=100000) :
 Calls Tryz.prog 12 #[.slice (some ⟨g,0,none⟩) 2 2] w fun e w'=>∃ v,e = .returned v/\w'.ownsRow w.heap.size 5 1 v (n1+n2) (x1++x2)/\Below w.heap.size w w':=by
 have hg:g < w.heap.size:=World.block_lt_of_cell? w _ c1
 have H1:=hid h1
 have H2:=hid h2
 obtain ⟨a1,k1,e1⟩:=h1.len
 obtain ⟨a2,k2,e2⟩:=h2.len
 subst e1 e2
 have Q1:=hid q1
 have Q2:=hid q2
 clear h1 h2 q1 q2
 have b1:¬ (n1:Int) < 0:=by omega
 have b2:¬ ((n1:Int)+n2) < 0:=by omega
 go_enter Tryz.func12,Tryz.ntmps12
 go_wp2
 go_loop [3,11] (fun n i=>(i = .int .i64 0/\n = .int .i64 0) \/ (i = .int .i64 1/\n = .int .i64 n1) \/ (i = .int .i64 2/\n = .int .i64 (n1+n2))) (fun _ i=>2 - (intOf i).toNat)
 case atStart=>exact Or.inl ⟨rfl,rfl⟩
 case round =>
  rcases hrel with ⟨rfl,rfl⟩ | ⟨rfl,rfl⟩ | ⟨rfl,rfl⟩
  ·go_wp2
   exact ⟨Or.inr (Or.inl ⟨rfl,rfl⟩),by decide⟩
  ·go_wp2
   exact ⟨Or.inr (Or.inr ⟨rfl,rfl⟩),by decide⟩
  ·have HG:Hid (∀ W:World,Calls Tryz.prog 30 #[.slice none 0 0,.int .i64 ((n1:Int)+n2)] W fun e w'=>∃ v,e = .returned v/\w'.ownsRow W.heap.size 5 1 v 0 []/\Below W.heap.size W w'):=by
    intro W
    by_cases h0:n1+n2=0
    ·have e0:((n1:Int)+n2)=0:=by omega
     rw [e0]
     exact (grow0By W).mono fun e w' hh=>⟨_,hh.1,⟨rfl,Or.inl ⟨rfl,rfl⟩⟩,hh.2 ▸ st0 W⟩
    ·have e0:((n1:Int)+n2)=((n1+n2:Nat):Int):=by omega
     rw [e0]
     exact (grow1By _ (by omega) hl W).mono fun e w' ⟨cap,he,ho,hb⟩=>⟨_,he,ho,hb⟩
   go_wp2_with (go_at_call 30;refine (HG.out _).mono ?_;rintro e w1 ⟨v,rfl,hv,hb1⟩;have HV:=hid hv;clear hv)
   go_loopw [6,27] (fun s i wr=>∃ (n:Nat) (xs:List Value),wr.ownsRow w.heap.size 5 1 s n xs/\Below w.heap.size w wr/\((i = .int .i64 0/\n=0/\xs=[]) \/ (i = .int .i64 1/\n=n1/\xs=x1) \/ (i = .int .i64 2/\n=n1+n2/\xs=x1++x2))) (fun _ i _=>2 - (intOf i).toNat)
   case atStart=>exact ⟨0,[],HV.out,hb1,Or.inl ⟨rfl,rfl,rfl⟩⟩
   case round =>
    obtain ⟨n,xs,hown,hbl,hcase⟩:=hrel
    have HO:=hid hown
    have hsz:=hbl.size
    obtain ⟨kk,ff⟩:=bcell hbl
    clear hown
    rcases hcase with ⟨rfl,hn0,hx0⟩ | ⟨rfl,hn0,hx0⟩ | ⟨rfl,hn0,hx0⟩
    ·have hxs:=hid hx0
     have hns:=hid hn0
     have hbd:n+n1<=100000:=by omega
     clear hx0 hn0
     go_wp2_with (at_builtin;refine wpList_appRow Tryz.underlying26 info_byte rfl (by omega) (by omega) (by rfl) _ _ (by rfl) (by rfl) HO.out _ (by rfl) (H1.out.kept hbl) Q1.out hbd hsz ?_;intro v' w' hown' hb')
     refine ⟨⟨n1,x1,?_,hbl.trans hb',Or.inr (Or.inl ⟨rfl,rfl,rfl⟩)⟩,by decide⟩
     rw [hxs.out,hns.out] at hown'
     simpa using hown'
    ·have hxs:=hid hx0
     have hns:=hid hn0
     have hbd:n+n2<=100000:=by omega
     clear hx0 hn0
     go_wp2_with (at_builtin;refine wpList_appRow Tryz.underlying26 info_byte rfl (by omega) (by omega) (by rfl) _ _ (by rfl) (by rfl) HO.out _ (by rfl) (H2.out.kept hbl) Q2.out hbd hsz ?_;intro v' w' hown' hb')
     refine ⟨⟨n1+n2,x1++x2,?_,hbl.trans hb',Or.inr (Or.inr ⟨rfl,rfl,rfl⟩)⟩,by decide⟩
     rw [hxs.out,hns.out] at hown'
     exact hown'
    ·have hxs:=hid hx0
     have hns:=hid hn0
     clear hx0 hn0
     go_wp2
     go_ret
     have ho:=HO.out
     rw [hxs.out,hns.out] at ho
     exact ⟨_,rfl,ho,hbl⟩
theorem slice_row {w:World} {v:Value} {l:List UInt8} (h:sliceAt w v l):RwAt w v l.length 1 (bcs l):=by
 refine ⟨by simp [bcs],?_⟩
 rcases h with ⟨a,c,h1,h2⟩ | ⟨g,o,c,h1,h2,h3,h4⟩
 ·exact Or.inl ⟨by rw [h2];rfl,a,c,h1⟩
 ·refine Or.inr ⟨g,o,c,h1,h2,h3,fun j x hj=>?_⟩
  simp only [bcs,List.getElem?_map,Option.map_eq_some_iff] at hj
  obtain ⟨cc,hc1,hc2⟩:=hj
  rw [<- hc2]
  exact h4 j cc hc1
theorem Lk.neq_of {P:Program} {w:World} {t:TypeId} {xs ys:Array Value} (h:(binOp .eql t (.agg xs) (.agg ys)).run P w = .ok (.bool true) w):(binOp .neq t (.agg xs) (.agg ys)).run P w = .ok (.bool false) w:=by
 rw [run_eql_struct] at h
 rw [run_neq_struct]
 revert h
 generalize Sem.run P (Op.equalIn 10000 t _ _) w=r
 intro h
 cases r with
 | ok b w' =>
  have e:Result.ok (Value.bool b) w' = .ok (.bool true) w:=h
  injection e with e1 e2
  injection e1 with e3
  subst e3 e2
  rfl
 | _=>cases h
theorem Lk.eq_px (a0 a1 a2 a3 a4 a5 a6 a7 a8 a9 a10 a11 a12 a13 a14 a15:Int) (d:Nat) (w:World):(Op.equalIn (d+2) 56 (.agg #[.int .u8 a0,.int .u8 a1,.int .u8 a2,.int .u8 a3,.int .u8 a4,.int .u8 a5,.int .u8 a6,.int .u8 a7,.int .u8 a8,.int .u8 a9,.int .u8 a10,.int .u8 a11,.int .u8 a12,.int .u8 a13,.int .u8 a14,.int .u8 a15]) (.agg #[.int .u8 a0,.int .u8 a1,.int .u8 a2,.int .u8 a3,.int .u8 a4,.int .u8 a5,.int .u8 a6,.int .u8 a7,.int .u8 a8,.int .u8 a9,.int .u8 a10,.int .u8 a11,.int .u8 a12,.int .u8 a13,.int .u8 a14,.int .u8 a15])).run Tryz.prog w = .ok true w:=by
 have u3:=Tryz.underlying5
 have x3:=Tryz.isAgg5
 have z3:=Tryz.sizeOf5
 have hU:Tryz.prog.cellsOf 5=1:=by kernel_rfl
 have hs:(Tryz.prog.info? 5).isSome=true:=by kernel_rfl
 obtain ⟨i,hi⟩:=Option.isSome_iff_exists.1 hs
 rw [run_equalIn_array w (d+1) _ _ Tryz.underlying56 hi,hU]
 simp only [List.range,List.range.loop,Op.eqItems]
 go_simp
theorem Lk.eq_line0 (f l:Int) (a0 a1 a2 a3 a4 a5 a6 a7 a8 a9 a10 a11 a12 a13 a14 a15:Int) (w:World):(binOp .eql 58 (.agg #[.int .i64 f,.int .i64 l,.int .u8 a0,.int .u8 a1,.int .u8 a2,.int .u8 a3,.int .u8 a4,.int .u8 a5,.int .u8 a6,.int .u8 a7,.int .u8 a8,.int .u8 a9,.int .u8 a10,.int .u8 a11,.int .u8 a12,.int .u8 a13,.int .u8 a14,.int .u8 a15]) (.agg #[.int .i64 f,.int .i64 l,.int .u8 a0,.int .u8 a1,.int .u8 a2,.int .u8 a3,.int .u8 a4,.int .u8 a5,.int .u8 a6,.int .u8 a7,.int .u8 a8,.int .u8 a9,.int .u8 a10,.int .u8 a11,.int .u8 a12,.int .u8 a13,.int .u8 a14,.int .u8 a15])).run Tryz.prog w = .ok (.bool true) w:=by
 have u3:=Tryz.underlying3
 have x3:=Tryz.isAgg3
 have z3:=Tryz.sizeOf3
 have x5:=Tryz.isAgg56
 have z5:=Tryz.sizeOf56
 have ha:=Lk.eq_px a0 a1 a2 a3 a4 a5 a6 a7 a8 a9 a10 a11 a12 a13 a14 a15 9997
 have hS:Tryz.prog.underlying 58=some (.struct (Tryz.prog.fieldsOf 58)):=by kernel_rfl
 have hp:Tryz.prog.stoodInHeld 58=false:=by kernel_rfl
 rw [run_eql_struct,show (10000:Nat)=9999+1 from rfl,run_equalIn_agg w 9999 58 _ _ hS hp]
 simp only [Program.fieldsOf,Tryz.underlying58]
 go_simp
theorem Lk.eq_write (c a v:Int) (w:World):(binOp .eql 62 (.agg #[.int .i64 c,.int .i64 a,.int .u8 v]) (.agg #[.int .i64 c,.int .i64 a,.int .u8 v])).run Tryz.prog w = .ok (.bool true) w:=by
 have u3:=Tryz.underlying3
 have x3:=Tryz.isAgg3
 have z3:=Tryz.sizeOf3
 have u5:=Tryz.underlying5
 have x5:=Tryz.isAgg5
 have z5:=Tryz.sizeOf5
 have hS:Tryz.prog.underlying 62=some (.struct (Tryz.prog.fieldsOf 62)):=by kernel_rfl
 have hp:Tryz.prog.stoodInHeld 62=false:=by kernel_rfl
 rw [run_eql_struct,show (10000:Nat)=9999+1 from rfl,run_equalIn_agg w 9999 62 _ _ hS hp]
 simp only [Program.fieldsOf,Tryz.underlying62]
 go_simp
def linC (x:Lin):List Value:=.int .i64 x.f :: .int .i64 x.l :: row16 x.px
def wrtC (x:Wt):List Value:=[.int .i64 x.c,.int .i64 x.a,.int .u8 x.v]
theorem Lk.nq_line (x:Lin) (w:World):(binOp .neq 58 (.agg (linC x).toArray) (.agg (linC x).toArray)).run Tryz.prog w = .ok (.bool false) w:=Lk.neq_of (Lk.eq_line0 x.f x.l (x.px 0) (x.px 1) (x.px 2) (x.px 3) (x.px 4) (x.px 5) (x.px 6) (x.px 7) (x.px 8) (x.px 9) (x.px 10) (x.px 11) (x.px 12) (x.px 13) (x.px 14) (x.px 15) w)
theorem Lk.nq_write (x:Wt) (w:World):(binOp .neq 62 (.agg (wrtC x).toArray) (.agg (wrtC x).toArray)).run Tryz.prog w = .ok (.bool false) w:=Lk.neq_of (Lk.eq_write x.c x.a x.v w)
theorem lcs_row:∀ (l:List Lin) (i:Nat) (x:Lin),l[i]? = some x->∀ (j:Nat) (v:Value),(linC x)[j]? = some v->(lcs l)[i * 18+j]? = some v
 | [],i,x,h=>by simp at h
 | y :: l,0,x,h=>fun j v hj=>by
  simp only [List.getElem?_cons_zero,Option.some.injEq] at h
  subst h
  rw [Nat.zero_mul,Nat.zero_add]
  show (linC y++lcs l)[j]? = _
  rw [List.getElem?_append_left (List.getElem?_eq_some_iff.1 hj).1]
  exact hj
 | y :: l,i+1,x,h=>fun j v hj=>by
  rw [List.getElem?_cons_succ] at h
  have:=lcs_row l i x h j v hj
  show (linC y++lcs l)[(i+1) * 18+j]? = _
  have hl:(linC y).length=18:=by simp [linC,row16_len]
  rw [List.getElem?_append_right (by rw [hl];omega),hl,show (i+1) * 18+j - 18=i * 18+j by omega]
  exact this
theorem wcs_row:∀ (l:List Wt) (i:Nat) (x:Wt),l[i]? = some x->∀ (j:Nat) (v:Value),(wrtC x)[j]? = some v->(wcs l)[i * 3+j]? = some v
 | [],i,x,h=>by simp at h
 | y :: l,0,x,h=>fun j v hj=>by
  simp only [List.getElem?_cons_zero,Option.some.injEq] at h
  subst h
  rw [Nat.zero_mul,Nat.zero_add]
  show (wrtC y++wcs l)[j]? = _
  rw [List.getElem?_append_left (List.getElem?_eq_some_iff.1 hj).1]
  exact hj
 | y :: l,i+1,x,h=>fun j v hj=>by
  rw [List.getElem?_cons_succ] at h
  have:=wcs_row l i x h j v hj
  show (wrtC y++wcs l)[(i+1) * 3+j]? = _
  rw [List.getElem?_append_right (by simp [wrtC];omega),show (wrtC y).length=3 from rfl,show (i+1) * 3+j - 3=i * 3+j by omega]
  exact this
theorem info_ln2:(Tryz.prog.info? 58).map (·.size)=some 18:=by kernel_rfl
theorem info_wr2:(Tryz.prog.info? 62).map (·.size)=some 3:=by kernel_rfl
theorem RwAt.range {w:World} {v:Value} {n z:Nat} {xs:List Value} (h:RwAt w v n z xs) {i:Nat} (hi:i < n) {row:List Value} (hr:∀ (j:Nat) (u:Value),row[j]? = some u->xs[i * z+j]? = some u):∃ g o cap,v = .slice (some ⟨g,o,none⟩) n cap/\g < w.heap.size/\w.rangeAt g (o+i * z) row:=by
 obtain ⟨_,⟨h0,_⟩ | ⟨g,o,cap,h1,h2,h3,h4⟩⟩:=h
 ·omega
 ·exact ⟨g,o,cap,h1,h3,fun j u hj=>by rw [Nat.add_assoc];exact h4 _ _ (hr j u hj)⟩
theorem Lk.sameLn (v1 v2:Value) (l:List Lin) (w:World) (h1:RwAt w v1 l.length 18 (lcs l)) (h2:RwAt w v2 l.length 18 (lcs l)) (hl:l.length<=1000000) :
 Calls Tryz.prog 33 #[v1,v2] w fun e w'=>e = .returned (.bool true)/\Below w.heap.size w w':=by
 obtain ⟨a1,k1,e1⟩:=h1.len
 obtain ⟨a2,k2,e2⟩:=h2.len
 subst e1 e2
 have H1:=hid h1
 have H2:=hid h2
 clear h1 h2
 go_enter Tryz.func33,Tryz.ntmps33
 go_wp2
 go_loopw [13] (fun i wr=>∃ j:Nat,j<=l.length/\i = .int .i64 j/\Below w.heap.size w wr) (fun i _=>l.length - (intOf i).toNat)
 case atStart=>exact ⟨0,Nat.zero_le _,rfl,st0 w⟩
 case round =>
  obtain ⟨j,hj,rfl,hb⟩:=hrel
  have HB:=hid hb
  by_cases hlt:j < l.length
  ·have hlt2:(j:Int) < l.length:=by omega
   have hj0:(0:Int)<=j:=by omega
   have hjs:(j:Int) < 1000000:=by omega
   obtain ⟨x,hx⟩:∃ x,l[j]? = some x:=⟨_,List.getElem?_eq_getElem hlt⟩
   obtain ⟨g1,o1,c1,q1,z1,r1⟩:=(H1.out.kept hb).range hlt (lcs_row l j x hx)
   obtain ⟨g2,o2,c2,q2,z2,r2⟩:=(H2.out.kept hb).range hlt (lcs_row l j x hx)
   cases q1
   cases q2
   have hnq:=Lk.nq_line x
   clear hb hx
   go_upto_region 6 with fail
   refine wp_region_held_drew (S:=fun w'=>w'.rangeAt g1 (o1+j * 18) (linC x)/\w'.rangeAt g2 (o2+j * 18) (linC x)) (by kernel_rfl) ⟨r1,r2⟩ ?_
   intro hS
   refine wpAnyH_take (i:=0) (oi:=⟨some 16,_,_,_,_,none⟩) (v:=?_) rfl (by kernel_rfl) (by kernel_rfl) (by kernel_rfl) (fun _ _ _ h=>h) (Or.inl ⟨by rfl,?_⟩) hS ?_
   rotate_left 1
   focus (intro w hSw;clear hSw;go_simp;try (with_reducible rfl))
   simp only [Act.put,xA,xB,xC]
   refine wpAnyH_take (i:=1) (oi:=⟨some 17,_,_,_,_,none⟩) (v:=?_) rfl (by kernel_rfl) (by kernel_rfl) (by kernel_rfl) (fun _ _ _ h=>h) (Or.inl ⟨by rfl,?_⟩) hS ?_
   rotate_left 1
   focus (intro w hSw;clear hSw;go_simp;try (with_reducible rfl))
   simp only [Act.put,xA,xB,xC]
   refine wpAnyH_take (i:=2) (oi:=⟨some 18,_,_,_,_,none⟩) (v:=?_) rfl (by kernel_rfl) (by kernel_rfl) (by kernel_rfl) (fun _ _ _ h=>h) (Or.inl ⟨by rfl,?_⟩) hS ?_
   rotate_left 1
   focus (intro w hSw;clear hSw;go_simp;try (with_reducible rfl))
   simp only [Act.put,xA,xB,xC]
   refine wpAnyH_take (i:=3) (oi:=⟨some 19,_,_,_,_,none⟩) (v:=.agg (linC x).toArray) rfl (by kernel_rfl) (by kernel_rfl) (by kernel_rfl) (fun _ _ _ h=>h) (Or.inl ⟨by rfl,fun w' hSw=>exec_load_mid 58 _ rfl g1 (o1+j * 18) rfl (linC x) _ hSw.1 Tryz.underlying58 rfl info_ln2⟩) hS ?_
   simp only [Act.put,xA,xB,xC]
   refine wpAnyH_take (i:=4) (oi:=⟨some 20,_,_,_,_,none⟩) (v:=?_) rfl (by kernel_rfl) (by kernel_rfl) (by kernel_rfl) (fun _ _ _ h=>h) (Or.inl ⟨by rfl,?_⟩) hS ?_
   rotate_left 1
   focus (intro w hSw;clear hSw;go_simp;try (with_reducible rfl))
   simp only [Act.put,xA,xB,xC]
   refine wpAnyH_take (i:=5) (oi:=⟨some 21,_,_,_,_,none⟩) (v:=?_) rfl (by kernel_rfl) (by kernel_rfl) (by kernel_rfl) (fun _ _ _ h=>h) (Or.inl ⟨by rfl,?_⟩) hS ?_
   rotate_left 1
   focus (intro w hSw;clear hSw;go_simp;try (with_reducible rfl))
   simp only [Act.put,xA,xB,xC]
   refine wpAnyH_take (i:=6) (oi:=⟨some 22,_,_,_,_,none⟩) (v:=?_) rfl (by kernel_rfl) (by kernel_rfl) (by kernel_rfl) (fun _ _ _ h=>h) (Or.inl ⟨by rfl,?_⟩) hS ?_
   rotate_left 1
   focus (intro w hSw;clear hSw;go_simp;try (with_reducible rfl))
   simp only [Act.put,xA,xB,xC]
   refine wpAnyH_take (i:=7) (oi:=⟨some 23,_,_,_,_,none⟩) (v:=.agg (linC x).toArray) rfl (by kernel_rfl) (by kernel_rfl) (by kernel_rfl) (fun _ _ _ h=>h) (Or.inl ⟨by rfl,fun w' hSw=>exec_load_mid 58 _ rfl g2 (o2+j * 18) rfl (linC x) _ hSw.2 Tryz.underlying58 rfl info_ln2⟩) hS ?_
   simp only [Act.put,xA,xB,xC]
   refine wpAnyH_take (i:=8) (oi:=⟨some 24,_,_,_,_,none⟩) (v:=?_) rfl (by kernel_rfl) (by kernel_rfl) (by kernel_rfl) (fun _ _ _ h=>h) (Or.inl ⟨by rfl,?_⟩) hS ?_
   rotate_left 1
   focus (intro w hSw;clear hSw;go_simp;try (with_reducible rfl))
   simp only [Act.put,xA,xB,xC]
   refine wpAnyH_done (by kernel_rfl) ?_ _
   clear hS r1 r2
   go_wp2
   exact ⟨⟨j+1,by omega,by simp,HB.out.drew⟩,by simp [intOf];omega⟩
  ·have hnl:¬ (j:Int) < l.length:=by omega
   clear hb
   go_wp2
   go_ret
   exact ⟨rfl,HB.out⟩
theorem Lk.sameWr (v1 v2:Value) (l:List Wt) (w:World) (h1:RwAt w v1 l.length 3 (wcs l)) (h2:RwAt w v2 l.length 3 (wcs l)) (hl:l.length<=1000000) :
 Calls Tryz.prog 34 #[v1,v2] w fun e w'=>e = .returned (.bool true)/\Below w.heap.size w w':=by
 obtain ⟨a1,k1,e1⟩:=h1.len
 obtain ⟨a2,k2,e2⟩:=h2.len
 subst e1 e2
 have H1:=hid h1
 have H2:=hid h2
 clear h1 h2
 go_enter Tryz.func34,Tryz.ntmps34
 go_wp2
 go_loopw [13] (fun i wr=>∃ j:Nat,j<=l.length/\i = .int .i64 j/\Below w.heap.size w wr) (fun i _=>l.length - (intOf i).toNat)
 case atStart=>exact ⟨0,Nat.zero_le _,rfl,st0 w⟩
 case round =>
  obtain ⟨j,hj,rfl,hb⟩:=hrel
  have HB:=hid hb
  by_cases hlt:j < l.length
  ·have hlt2:(j:Int) < l.length:=by omega
   have hj0:(0:Int)<=j:=by omega
   have hjs:(j:Int) < 1000000:=by omega
   obtain ⟨x,hx⟩:∃ x,l[j]? = some x:=⟨_,List.getElem?_eq_getElem hlt⟩
   obtain ⟨g1,o1,c1,q1,z1,r1⟩:=(H1.out.kept hb).range hlt (wcs_row l j x hx)
   obtain ⟨g2,o2,c2,q2,z2,r2⟩:=(H2.out.kept hb).range hlt (wcs_row l j x hx)
   cases q1
   cases q2
   have hnq:=Lk.nq_write x
   clear hb hx
   go_upto_region 6 with fail
   refine wp_region_held_drew (S:=fun w'=>w'.rangeAt g1 (o1+j * 3) (wrtC x)/\w'.rangeAt g2 (o2+j * 3) (wrtC x)) (by kernel_rfl) ⟨r1,r2⟩ ?_
   intro hS
   refine wpAnyH_take (i:=0) (oi:=⟨some 16,_,_,_,_,none⟩) (v:=?_) rfl (by kernel_rfl) (by kernel_rfl) (by kernel_rfl) (fun _ _ _ h=>h) (Or.inl ⟨by rfl,?_⟩) hS ?_
   rotate_left 1
   focus (intro w hSw;clear hSw;go_simp;try (with_reducible rfl))
   simp only [Act.put,xA,xB,xC]
   refine wpAnyH_take (i:=1) (oi:=⟨some 17,_,_,_,_,none⟩) (v:=?_) rfl (by kernel_rfl) (by kernel_rfl) (by kernel_rfl) (fun _ _ _ h=>h) (Or.inl ⟨by rfl,?_⟩) hS ?_
   rotate_left 1
   focus (intro w hSw;clear hSw;go_simp;try (with_reducible rfl))
   simp only [Act.put,xA,xB,xC]
   refine wpAnyH_take (i:=2) (oi:=⟨some 18,_,_,_,_,none⟩) (v:=?_) rfl (by kernel_rfl) (by kernel_rfl) (by kernel_rfl) (fun _ _ _ h=>h) (Or.inl ⟨by rfl,?_⟩) hS ?_
   rotate_left 1
   focus (intro w hSw;clear hSw;go_simp;try (with_reducible rfl))
   simp only [Act.put,xA,xB,xC]
   refine wpAnyH_take (i:=3) (oi:=⟨some 19,_,_,_,_,none⟩) (v:=.agg (wrtC x).toArray) rfl (by kernel_rfl) (by kernel_rfl) (by kernel_rfl) (fun _ _ _ h=>h) (Or.inl ⟨by rfl,fun w' hSw=>exec_load_mid 62 _ rfl g1 (o1+j * 3) rfl (wrtC x) _ hSw.1 Tryz.underlying62 rfl info_wr2⟩) hS ?_
   simp only [Act.put,xA,xB,xC]
   refine wpAnyH_take (i:=4) (oi:=⟨some 20,_,_,_,_,none⟩) (v:=?_) rfl (by kernel_rfl) (by kernel_rfl) (by kernel_rfl) (fun _ _ _ h=>h) (Or.inl ⟨by rfl,?_⟩) hS ?_
   rotate_left 1
   focus (intro w hSw;clear hSw;go_simp;try (with_reducible rfl))
   simp only [Act.put,xA,xB,xC]
   refine wpAnyH_take (i:=5) (oi:=⟨some 21,_,_,_,_,none⟩) (v:=?_) rfl (by kernel_rfl) (by kernel_rfl) (by kernel_rfl) (fun _ _ _ h=>h) (Or.inl ⟨by rfl,?_⟩) hS ?_
   rotate_left 1
   focus (intro w hSw;clear hSw;go_simp;try (with_reducible rfl))
   simp only [Act.put,xA,xB,xC]
   refine wpAnyH_take (i:=6) (oi:=⟨some 22,_,_,_,_,none⟩) (v:=?_) rfl (by kernel_rfl) (by kernel_rfl) (by kernel_rfl) (fun _ _ _ h=>h) (Or.inl ⟨by rfl,?_⟩) hS ?_
   rotate_left 1
   focus (intro w hSw;clear hSw;go_simp;try (with_reducible rfl))
   simp only [Act.put,xA,xB,xC]
   refine wpAnyH_take (i:=7) (oi:=⟨some 23,_,_,_,_,none⟩) (v:=.agg (wrtC x).toArray) rfl (by kernel_rfl) (by kernel_rfl) (by kernel_rfl) (fun _ _ _ h=>h) (Or.inl ⟨by rfl,fun w' hSw=>exec_load_mid 62 _ rfl g2 (o2+j * 3) rfl (wrtC x) _ hSw.2 Tryz.underlying62 rfl info_wr2⟩) hS ?_
   simp only [Act.put,xA,xB,xC]
   refine wpAnyH_take (i:=8) (oi:=⟨some 24,_,_,_,_,none⟩) (v:=?_) rfl (by kernel_rfl) (by kernel_rfl) (by kernel_rfl) (fun _ _ _ h=>h) (Or.inl ⟨by rfl,?_⟩) hS ?_
   rotate_left 1
   focus (intro w hSw;clear hSw;go_simp;try (with_reducible rfl))
   simp only [Act.put,xA,xB,xC]
   refine wpAnyH_done (by kernel_rfl) ?_ _
   clear hS r1 r2
   go_wp2
   exact ⟨⟨j+1,by omega,by simp,HB.out.drew⟩,by simp [intOf];omega⟩
  ·have hnl:¬ (j:Int) < l.length:=by omega
   clear hb
   go_wp2
   go_ret
   exact ⟨rfl,HB.out⟩
structure ShAt (w : World) (v1 v2 v3 : Value) (ln : List Lin) (sm : List UInt8) (ws : List Wt) : Prop where
 ln:RwAt w v1 ln.length 18 (lcs ln)
 sm:sliceAt w v2 sm
 ws:RwAt w v3 ws.length 3 (wcs ws)
theorem ShAt.kept {w w1:World} {v1 v2 v3:Value} {ln:List Lin} {sm:List UInt8} {ws:List Wt} (h:ShAt w v1 v2 v3 ln sm ws) (hb:Below w.heap.size w w1):ShAt w1 v1 v2 v3 ln sm ws:=⟨h.ln.kept hb,h.sm.kept hb,h.ws.kept hb⟩
theorem Lk.sameShown (v1 v2 v3 u1 u2 u3:Value) (ln:List Lin) (sm:List UInt8) (ws:List Wt) (w:World) (h:ShAt w v1 v2 v3 ln sm ws) (k:ShAt w u1 u2 u3 ln sm ws) (h1:ln.length<=1000000) (h3:ws.length<=1000000) :
 Calls Tryz.prog 15 #[.agg #[v1,v2,v3],.agg #[u1,u2,u3]] w fun e w'=>e = .returned (.bool true)/\Below w.heap.size w w':=by
 obtain ⟨a1,k1,e1⟩:=h.ln.len
 obtain ⟨a2,k2,e2⟩:=slice_len h.sm
 obtain ⟨a3,k3,e3⟩:=h.ws.len
 obtain ⟨b1,m1,f1⟩:=k.ln.len
 obtain ⟨b2,m2,f2⟩:=slice_len k.sm
 obtain ⟨b3,m3,f3⟩:=k.ws.len
 subst e1 e2 e3 f1 f2 f3
 have H:=hid h
 have K:=hid k
 have HL1:=hid h1
 have HL3:=hid h3
 clear h k h1 h3
 go_enter Tryz.func15,Tryz.ntmps15
 go_wp2_with (first
  | (go_at_call 33;refine (Lk.sameLn _ _ ln _ (H.out.kept (stA (stA (st0 w) _) _)).ln (K.out.kept (stA (stA (st0 w) _) _)).ln HL1.out).mono ?_;rintro e w1 ⟨rfl,hb1⟩;have HB1:=hid (stp (stA (stA (st0 w) (.cells #[.slice a1 ln.length k1,.slice a2 sm.length k2,.slice a3 ws.length k3] 50)) (.cells #[.slice b1 ln.length m1,.slice b2 sm.length m2,.slice b3 ws.length m3] 50)) hb1);obtain ⟨kk1,ff1⟩:=bcell hb1;have zz1:w.heap.size+1 < w1.heap.size:=by have:=hb1.size;simp at this;omega)
  | (go_at_call 32;refine (equal_any _ _ sm sm _ (H.out.kept HB1.out).sm (K.out.kept HB1.out).sm).mono ?_;rw [beq_self_eq_true];rintro e w2 ⟨rfl,rfl⟩)
  | (go_at_call 34;refine (Lk.sameWr _ _ ws _ (H.out.kept HB1.out).ws (K.out.kept HB1.out).ws HL3.out).mono ?_;rintro e w3 ⟨rfl,hb3⟩;have HB3:=hid (stp HB1.out hb3)))
 go_ret
 exact ⟨rfl,HB3.out⟩
end Go.Proofs.YtbhpfkjfijdmaaaGreatDoor
namespace Go.Proofs.YtbhpfkjfijdmaaaGreatDoor
open Go.ChangeShapes Go.WideShapes Go.ChangeAt Go.RowKit
open Go
set_option linter.unusedVariables false
set_option maxRecDepth 100000
set_option maxHeartbeats 1600000
theorem count_set:∀ (l:List Bool) (i:Nat),l[i]? = some false->(l.set i true).count false+1=l.count false
 | [],i,h=>by simp at h
 | x :: l,0,h=>by
  simp only [List.getElem?_cons_zero,Option.some.injEq] at h
  subst h
  simp
 | x :: l,i+1,h=>by
  rw [List.getElem?_cons_succ] at h
  have:=count_set l i h
  rw [List.set_cons_succ,List.count_cons,List.count_cons]
  omega
theorem wpAnyI {P:Program} {ops:Array Oper} {Q:Exit->Act->World->Prop} {md:Region.Mode} (Inv:Array Bool->Act->World->Prop)
 (step:∀ (listed:Array Bool) (a:Act) (w:World) (i:Nat) (o:Oper),Inv listed a w->listed.size=ops.size->ops[i]? = some o->listed.getD i true=false->(∀ e ∈ o.after,Region.binds md e=true->listed.getD e.on false=true)->∀ K:Act->World->Prop,(∀ a' w',Inv (listed.setIfInBounds i true) a' w'->K a' w')->if Region.wanted o (yielded ops a.tmps)=true then Oper.wp P o a w K Q else K (a.put o.dst undef) w)
 (fin:∀ (listed:Array Bool) (a:Act) (w:World),Inv listed a w->listed.size=ops.size->Region.ready md ops listed=[]->Q .normal a w) :
 ∀ (fuel:Nat) (listed:Array Bool) (a:Act) (w:World),listed.size=ops.size->listed.toList.count false<=fuel->Inv listed a w->wpAny P md ops Q fuel listed a w:=by
 have hget:∀ (listed:Array Bool) (i:Nat),listed.getD i true=false->listed.toList[i]? = some false:=by
  intro listed i h
  rw [Array.getElem?_toList]
  cases hh:listed[i]? with
  | none=>rw [Array.getD_eq_getD_getElem?,hh] at h;cases h
  | some b=>rw [Array.getD_eq_getD_getElem?,hh] at h;exact congrArg some h
 intro fuel
 induction fuel with
 | zero =>
  intro listed a w hs hc hI
  have hr:Region.ready md ops listed=[]:=by
   cases hh:Region.ready md ops listed with
   | nil=>rfl
   | cons j r =>
    have hj:j ∈ Region.ready md ops listed:=by rw [hh];exact List.mem_cons_self
    have h1:=hget listed j (mem_ready.1 hj).1
    have h2:=count_set _ _ h1
    omega
  exact ⟨hr,fin listed a w hI hs hr⟩
 | succ fuel ih =>
  intro listed a w hs hc hI
  refine ⟨fun hr=>fin listed a w hI hs hr,fun i hi=>?_⟩
  obtain ⟨hun,o,ho,hall⟩:=mem_ready.1 hi
  refine wpOp_step ho (fun K' hK=>step listed a w i o hI hs ho hun hall K' (fun a' w' hI'=>hK a' w' (ih _ a' w' (by rw [Array.size_setIfInBounds];exact hs) ?_ hI')))
  have h2:=count_set _ _ (hget listed i hun)
  rw [Array.toList_setIfInBounds]
  omega
def sv (a:Act) (d:Nat):Value:=a.eval (.tmp d)
theorem sv_put {a:Act} {d:Nat} {v:Value} (h:d < a.tmps.size):sv (a.put (some d) v) d=v:=by
 unfold sv Act.eval Act.put
 simp [h]
theorem sv_ne {a:Act} {d k:Nat} {v:Value} (h:k ≠ d):sv (a.put (some d) v) k=sv a k:=by
 unfold sv
 exact Act.eval_put (fun d' hd e=>by cases hd;cases e;exact h rfl)
theorem size_put (a:Act) (d:Option Nat) (v:Value):(a.put d v).tmps.size=a.tmps.size:=by
 unfold Act.put
 cases d <;> simp
end Go.Proofs.YtbhpfkjfijdmaaaGreatDoor
