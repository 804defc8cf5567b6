/-
  Parts of a proof, joined.
-/
import Derived.Test.YtbennamieealbaaGreatDoorZg43
import Derived.Test.YtbennamieealbaaGreatDoorZg34
import Derived.Deep.AppendLies
import Derived.Test.YtbennamieealbaaGreatDoorZg01
import Derived.Test.YtbennamieealbaaGreatDoorZg20
import Derived.Test.YtbennamieealbaaGreatDoorZg36
set_option linter.unusedVariables false
set_option maxRecDepth 100000
set_option maxHeartbeats 1600000
namespace Go.Proofs.YtbennamieealbaaGreatDoor
open Go.ChangeShapes Go.WideShapes Go.ChangeAt Go.RowKit
def RwAt (w:World) (v:Value) (n z:Nat) (xs:List Value):Prop:=xs.length=n*z/\((n=0 /\ ∃ a c,v = .slice a 0 c) \/ ∃ g o cap,v = .slice (some ⟨g,o,none⟩) n cap/\n<=cap/\g<w.heap.size /\ ∀ j x,xs[j]? = some x->w.cell? ⟨g,o+j,none⟩=some x)
theorem zbv {w:World} {B z n:Nat} {t:TypeId} {v:Value} {xs:List Value} (h:w.ownsRow B t z v n xs):∃ a c,v = .slice a n c:=by
 rcases h.2 with ⟨e0,e1⟩|⟨g,cap,cur,e0,_⟩
 ·exact ⟨none,0,by rw [e0,e1]⟩
 ·exact ⟨_,_,e0⟩
section
variable {w w1 : World} {v : Value} {n z B : Nat} {xs : List Value} {t : TypeId}
theorem RwAt.kept (h:RwAt w v n z xs) (hb:Below w.heap.size w w1):RwAt w1 v n z xs:=by
 obtain ⟨h0,h|⟨g,o,cap,h1,h2,h3,h4⟩⟩:=h
 ·exact ⟨h0,Or.inl h⟩
 ·exact ⟨h0,Or.inr ⟨g,o,cap,h1,h2,Nat.lt_of_lt_of_le h3 hb.size,λj x hj=>(hb.cell (p:=⟨g,o+j,none⟩) h3).trans (h4 j x hj)⟩⟩
theorem RwAt.len (h:RwAt w v n z xs):∃ a c,v = .slice a n c:=by
 obtain ⟨_,⟨h0,a,c,h1⟩|⟨g,o,cap,h1,_⟩⟩:=h
 ·exact ⟨a,c,by rw [h0];exact h1⟩
 ·exact ⟨_,_,h1⟩
theorem zfw (h:w.ownsRow B t z v n xs):RwAt w v n z xs:=by
 refine ⟨h.1,?_⟩
 by_cases h0:n=0
 ·obtain ⟨a,c,e⟩:=zbv h
  exact Or.inl ⟨h0,a,c,by rw [<- h0];exact e⟩
 ·obtain ⟨g,cap,e,h1,h2,h3⟩:=zf8 h (by omega)
  exact Or.inr ⟨g,0,cap,e,h1,h2,λj x hj=>by rw [Nat.zero_add];exact h3 j x hj⟩
theorem appNoRow {ts:TypeId} (hts:Tryz.prog.underlying ts=some (.slice t)) (i:TypeInfo) (hi:Tryz.prog.info? t=some i) (ty:TypeId) (hown:w.ownsRow B t z v n xs) (a:Option Addr) (c:Nat) :
 (Builtin.append_ #[ts,ts] ty #[v,.slice a 0 c]).run Tryz.prog w = .ok v w:=by
 have hu:=run_underlying (P:=Tryz.prog) hts
 have hf:(Builtin.firstCells i.size 0 (.slice a 0 c)).run Tryz.prog w = .ok #[] w:=by
  cases a with
  | none=>exact run_firstCells_none w i.size 0 0 c
  | some a=>exact run_firstCells_some w i.size 0 a 0 c [] (by simp) (λj v hj=>by simp at hj)
 rcases hown.2 with ⟨rfl,rfl⟩|⟨g,cap,cur,rfl,_,_,hnc,_⟩
 ·simp [Builtin.append_,hu,sizeOf,typeInfo,hi,Builtin.lenOf,hf]
 ·simp [Builtin.append_,hu,sizeOf,typeInfo,hi,Builtin.lenOf,hf,hnc,storeCells]
theorem zaN {ops:Array Oper} {rest:List Oper} {o:Oper} {a:Act} {Q:Exit->Act->World->Prop} {ts:TypeId} {zv:Value} {y:Nat} (hts:Tryz.prog.underlying ts=some (.slice t)) (hinf:(Tryz.prog.info? t).map (λi=>(i.zero,i.size,i.bytes))=some (some zv,z,y)) (hzs:zv.cells.size=z) (hz:0<z) (hy:y<=64)
 (hgd:o.guard=none) (s x:Operand) (ho:o.op = .call { callee:=.builtin .append,args:=#[s,x],argTypes:=#[ts,ts] }) (hs:a.eval s=v) (hown:w.ownsRow B t z v n xs) (xv:Value) (hx:a.eval x=xv) {m:Nat} {ys:List Value} (hl:RwAt w xv m z ys) (h1:∀ u∈ys,u.oneCell'=true) (hb:n+m<=100000) (hB:B<=w.heap.size)
 (h:∀ v' w',w'.ownsRow B t z v' (n+m) (xs++ys)->Below B w w'->wpList Tryz.prog ops Q rest (a.put o.dst v') w'):wpList Tryz.prog ops Q (o::rest) a w:=by
 obtain ⟨i0,hi0,hz0,hz1,hz2⟩:=info_parts hinf
 by_cases hm:m=0
 ·subst hm
  obtain ⟨ad,c,rfl⟩:=hl.len
  have hy0:ys=[]:=List.eq_nil_of_length_eq_zero (by rw [hl.1];omega)
  refine wpList_plain hgd λK hK=>?_
  have hrun:=appNoRow hts i0 hi0 o.type hown ad c
  unfold Oper.wp
  simp [execOp,ho,resolve,invoke,builtin,hs,hx,hrun,Result.andThen]
  exact hK _ _ (h v w (by rw [hy0];simpa using hown) (Below.refl _ _))
 ·obtain ⟨hl0,hl1|⟨g,o',c,e1,e2,e3,e4⟩⟩:=hl
  ·exact absurd hl1.1 hm
  ·refine wpList_append_lies _ hgd s x _ ho B t i0 zv z y hts hi0 hz0 hz1 hz2 hzs hz v n xs hs hown ⟨g,o',none⟩ m c ys (hx.trans e1) hl0 (λj u hj=>by rw [addr_add];exact e4 j u hj) h1 (by omega) (by unfold maxLen;omega) (Nat.le_trans (Nat.mul_le_mul hb hy) (by decide)) hB w.heap.size rfl ?_
   intro g' cap w' hown' hgrow _ _
   exact h _ w' hown' ((Below.refl B w).grown hgrow hB (λk hk=>(hown.lt k hk).1))
end
/-! ### lines -/
def gRenLn:Go.Shelf.Ren:=⟨fun|4=>42|n=>n,fun|0=>0|3=>3|4=>4|9=>9|20=>20|22=>47|25=>62|n=>n,fun|n=>n⟩
theorem gLayLn:Go.Proofs.Lays8.n4 Tryz.prog gRenLn:={
 mixed:=by kernel_rfl
 f4:=⟨Tryz.f42.name,by kernel_rfl,Tryz.func42.trans (congrArg some (by kernel_rfl))⟩
 t0:=Tryz.underlying0
 a0:=Tryz.isAgg0
 z0:=Tryz.sizeOf0
 v0:=Tryz.zeroValue0
 t3:=Tryz.underlying3
 a3:=Tryz.isAgg3
 z3:=Tryz.sizeOf3
 v3:=Tryz.zeroValue3
 t4:=Tryz.underlying4
 a4:=Tryz.isAgg4
 z4:=Tryz.sizeOf4
 v4:=Tryz.zeroValue4
 t9:=Tryz.underlying9
 a9:=Tryz.isAgg9
 z9:=Tryz.sizeOf9
 v9:=Tryz.zeroValue9
 t20:=Tryz.underlying20
 a20:=Tryz.isAgg20
 z20:=Tryz.sizeOf20
 v20:=Tryz.zeroValue20
 t22:=Tryz.underlying47
 a22:=Tryz.isAgg47
 z22:=Tryz.sizeOf47
 v22:=Tryz.zeroValue47 }
theorem grow0Ln (w:World):Calls Tryz.prog 42 #[.slice none 0 0,.int .i64 0] w λe w'=>e = .returned (.slice none 0 0)/\w'=w :=
 Any8.slices_Grow_room gLayLn none 0 0 0 w (by omega) (by omega) (by omega) (by omega)
theorem grow1Ln (n:Nat) (h0:0<n) (h1:n<=100000) (w:World):Calls Tryz.prog 42 #[.slice none 0 0,.int .i64 n] w λe w'=>∃ cap,e = .returned (.slice (some ⟨w.heap.size,0,none⟩) 0 cap)/\w'.ownsRow w.heap.size 62 18 (.slice (some ⟨w.heap.size,0,none⟩) 0 cap) 0 []/\Below w.heap.size w w':=by
 obtain ⟨i0,hi0,hz0,hz1,hz2⟩:=info_parts zbM
 refine (Any8.slices_Grow_grow gLayLn i0 _ hi0 hz0 (by omega) none 0 0 n [] w (by omega) (by omega) (by rw [hz2];omega) (by omega) (by simp) (λ_=>rfl) (λa h=>by cases h)).mono λe w' hh=>?_
 obtain ⟨he,hw⟩:=hh
 have hge:=grownCap_ge w (0+n) 0 (gRenLn.t 25)
 have hle:=grownCap_le_maxLen w (0+n) 0 (gRenLn.t 25) (by unfold maxLen;omega)
 refine ⟨_,he,?_,?_⟩
 ·rw [hw]
  refine ⟨by simp,Or.inr ⟨w.heap.size,_,_,rfl,Nat.le_refl _,heap_alloc_new w.drew _,by omega,hle,?_,by simp⟩⟩
  have e1:(.agg (lineL 0 0 λ_=>0).toArray:Value).cells.size=18:=rfl
  simp only [Array.size_append,List.size_toArray,size_zeroCells,e1,List.length_nil]
  omega
 ·rw [hw];exact stA (st0 w).drew _
theorem catLn (g:Nat) (v1 v2:Value) (n1 n2:Nat) (x1 x2:List Value) (w:World) (h1:RwAt w v1 n1 18 x1) (h2:RwAt w v2 n2 18 x2) (q1:∀ u∈x1,u.oneCell'=true) (q2:∀ u∈x2,u.oneCell'=true) (c1:w.cell? ⟨g,0,none⟩=some v1) (c2:w.cell? ⟨g,1,none⟩=some v2) (hl:n1+n2<=100000) :
 Calls Tryz.prog 15 #[.slice (some ⟨g,0,none⟩) 2 2] w λe w'=>∃ v,e = .returned v/\w'.ownsRow w.heap.size 62 18 v (n1+n2) (x1++x2)/\Below w.heap.size w w':=by
 have hg:g<w.heap.size:=World.block_lt_of_cell? w _ c1
 have H1:=hid h1
 have H2:=hid h2
 obtain ⟨a1,k1,e1⟩:=h1.len
 obtain ⟨a2,k2,e2⟩:=h2.len
 subst e1 e2
 have Q1:=hid q1
 have Q2:=hid q2
 clear h1 h2 q1 q2
 have b1:¬ (n1:Int)<0:=by omega
 have b2:¬ ((n1:Int)+n2)<0:=by omega
 go_enter Tryz.func15,Tryz.ntmps15
 go_wp2
 go_loop [3,11] (λn i=>(i = .int .i64 0/\n = .int .i64 0) \/ (i = .int .i64 1/\n = .int .i64 n1) \/ (i = .int .i64 2/\n = .int .i64 (n1+n2))) (λ_ i=>2-(intOf i).toNat)
 case atStart=>exact Or.inl ⟨rfl,rfl⟩
 case round =>
  rcases hrel with ⟨rfl,rfl⟩|⟨rfl,rfl⟩|⟨rfl,rfl⟩
  ·go_wp2
   exact ⟨Or.inr (Or.inl ⟨rfl,rfl⟩),by decide⟩
  ·go_wp2
   exact ⟨Or.inr (Or.inr ⟨rfl,rfl⟩),by decide⟩
  ·have HG:Hid (∀ W:World,Calls Tryz.prog 42 #[.slice none 0 0,.int .i64 ((n1:Int)+n2)] W λe w'=>∃ v,e = .returned v/\w'.ownsRow W.heap.size 62 18 v 0 []/\Below W.heap.size W w'):=by
    intro W
    by_cases h0:n1+n2=0
    ·have e0:((n1:Int)+n2)=0:=by omega
     rw [e0]
     exact (grow0Ln W).mono λe w' hh=>⟨_,hh.1,⟨rfl,Or.inl ⟨rfl,rfl⟩⟩,hh.2 ▸ st0 W⟩
    ·have e0:((n1:Int)+n2)=((n1+n2:Nat):Int):=by omega
     rw [e0]
     exact (grow1Ln _ (by omega) hl W).mono λe w' ⟨cap,he,ho,hb⟩=>⟨_,he,ho,hb⟩
   go_wp2_with (go_at_call 42;refine (HG.out _).mono ?_;rintro e w1 ⟨v,rfl,hv,hb1⟩;have HV:=hid hv;clear hv)
   go_loopw [6,27] (λs i wr=>∃ (n:Nat) (xs:List Value),wr.ownsRow w.heap.size 62 18 s n xs/\Below w.heap.size w wr/\((i = .int .i64 0/\n=0/\xs=[]) \/ (i = .int .i64 1/\n=n1/\xs=x1) \/ (i = .int .i64 2/\n=n1+n2/\xs=x1++x2))) (λ_ i _=>2-(intOf i).toNat)
   case atStart=>exact ⟨0,[],HV.out,hb1,Or.inl ⟨rfl,rfl,rfl⟩⟩
   case round =>
    obtain ⟨n,xs,hown,hbl,hcase⟩:=hrel
    have HO:=hid hown
    have hsz:=hbl.size
    obtain ⟨kk,ff⟩:=bcell hbl
    clear hown
    rcases hcase with ⟨rfl,hn0,hx0⟩|⟨rfl,hn0,hx0⟩|⟨rfl,hn0,hx0⟩
    ·have hxs:=hid hx0
     have hns:=hid hn0
     have hbd:n+n1<=100000:=by omega
     clear hx0 hn0
     go_wp2_with (at_builtin;refine zaN Tryz.underlying47 zbM rfl (by omega) (by omega) (by rfl) _ _ (by rfl) (by rfl) HO.out _ (by rfl) (H1.out.kept hbl) Q1.out hbd hsz ?_;intro v' w' hown' hb')
     refine ⟨⟨n1,x1,?_,hbl.trans hb',Or.inr (Or.inl ⟨rfl,rfl,rfl⟩)⟩,by decide⟩
     rw [hxs.out,hns.out] at hown'
     simpa using hown'
    ·have hxs:=hid hx0
     have hns:=hid hn0
     have hbd:n+n2<=100000:=by omega
     clear hx0 hn0
     go_wp2_with (at_builtin;refine zaN Tryz.underlying47 zbM rfl (by omega) (by omega) (by rfl) _ _ (by rfl) (by rfl) HO.out _ (by rfl) (H2.out.kept hbl) Q2.out hbd hsz ?_;intro v' w' hown' hb')
     refine ⟨⟨n1+n2,x1++x2,?_,hbl.trans hb',Or.inr (Or.inr ⟨rfl,rfl,rfl⟩)⟩,by decide⟩
     rw [hxs.out,hns.out] at hown'
     exact hown'
    ·have hxs:=hid hx0
     have hns:=hid hn0
     clear hx0 hn0
     go_wp2
     go_ret
     have ho:=HO.out
     rw [hxs.out,hns.out] at ho
     exact ⟨_,rfl,ho,hbl⟩
/-! ### writes -/
def gRenWr:Go.Shelf.Ren:=⟨fun|4=>44|n=>n,fun|0=>0|3=>3|4=>4|9=>9|20=>20|22=>48|25=>66|n=>n,fun|n=>n⟩
theorem gLayWr:Go.Proofs.Lays8.n4 Tryz.prog gRenWr:={
 mixed:=by kernel_rfl
 f4:=⟨Tryz.f44.name,by kernel_rfl,Tryz.func44.trans (congrArg some (by kernel_rfl))⟩
 t0:=Tryz.underlying0
 a0:=Tryz.isAgg0
 z0:=Tryz.sizeOf0
 v0:=Tryz.zeroValue0
 t3:=Tryz.underlying3
 a3:=Tryz.isAgg3
 z3:=Tryz.sizeOf3
 v3:=Tryz.zeroValue3
 t4:=Tryz.underlying4
 a4:=Tryz.isAgg4
 z4:=Tryz.sizeOf4
 v4:=Tryz.zeroValue4
 t9:=Tryz.underlying9
 a9:=Tryz.isAgg9
 z9:=Tryz.sizeOf9
 v9:=Tryz.zeroValue9
 t20:=Tryz.underlying20
 a20:=Tryz.isAgg20
 z20:=Tryz.sizeOf20
 v20:=Tryz.zeroValue20
 t22:=Tryz.underlying48
 a22:=Tryz.isAgg48
 z22:=Tryz.sizeOf48
 v22:=Tryz.zeroValue48 }
theorem grow0Wr (w:World):Calls Tryz.prog 44 #[.slice none 0 0,.int .i64 0] w λe w'=>e = .returned (.slice none 0 0)/\w'=w :=
 Any8.slices_Grow_room gLayWr none 0 0 0 w (by omega) (by omega) (by omega) (by omega)
theorem grow1Wr (n:Nat) (h0:0<n) (h1:n<=100000) (w:World):Calls Tryz.prog 44 #[.slice none 0 0,.int .i64 n] w λe w'=>∃ cap,e = .returned (.slice (some ⟨w.heap.size,0,none⟩) 0 cap)/\w'.ownsRow w.heap.size 66 3 (.slice (some ⟨w.heap.size,0,none⟩) 0 cap) 0 []/\Below w.heap.size w w':=by
 obtain ⟨i0,hi0,hz0,hz1,hz2⟩:=info_parts zbV
 refine (Any8.slices_Grow_grow gLayWr i0 _ hi0 hz0 (by omega) none 0 0 n [] w (by omega) (by omega) (by rw [hz2];omega) (by omega) (by simp) (λ_=>rfl) (λa h=>by cases h)).mono λe w' hh=>?_
 obtain ⟨he,hw⟩:=hh
 have hge:=grownCap_ge w (0+n) 0 (gRenWr.t 25)
 have hle:=grownCap_le_maxLen w (0+n) 0 (gRenWr.t 25) (by unfold maxLen;omega)
 refine ⟨_,he,?_,?_⟩
 ·rw [hw]
  refine ⟨by simp,Or.inr ⟨w.heap.size,_,_,rfl,Nat.le_refl _,heap_alloc_new w.drew _,by omega,hle,?_,by simp⟩⟩
  have e1:(.agg #[.int .i64 0,.int .i64 0,.int .u8 0]:Value).cells.size=3:=rfl
  simp only [Array.size_append,List.size_toArray,size_zeroCells,e1,List.length_nil]
  omega
 ·rw [hw];exact stA (st0 w).drew _
theorem catWr (g:Nat) (v1 v2:Value) (n1 n2:Nat) (x1 x2:List Value) (w:World) (h1:RwAt w v1 n1 3 x1) (h2:RwAt w v2 n2 3 x2) (q1:∀ u∈x1,u.oneCell'=true) (q2:∀ u∈x2,u.oneCell'=true) (c1:w.cell? ⟨g,0,none⟩=some v1) (c2:w.cell? ⟨g,1,none⟩=some v2) (hl:n1+n2<=100000) :
 Calls Tryz.prog 17 #[.slice (some ⟨g,0,none⟩) 2 2] w λe w'=>∃ v,e = .returned v/\w'.ownsRow w.heap.size 66 3 v (n1+n2) (x1++x2)/\Below w.heap.size w w':=by
 have hg:g<w.heap.size:=World.block_lt_of_cell? w _ c1
 have H1:=hid h1
 have H2:=hid h2
 obtain ⟨a1,k1,e1⟩:=h1.len
 obtain ⟨a2,k2,e2⟩:=h2.len
 subst e1 e2
 have Q1:=hid q1
 have Q2:=hid q2
 clear h1 h2 q1 q2
 have b1:¬ (n1:Int)<0:=by omega
 have b2:¬ ((n1:Int)+n2)<0:=by omega
 go_enter Tryz.func17,Tryz.ntmps17
 go_wp2
 go_loop [3,11] (λn i=>(i = .int .i64 0/\n = .int .i64 0) \/ (i = .int .i64 1/\n = .int .i64 n1) \/ (i = .int .i64 2/\n = .int .i64 (n1+n2))) (λ_ i=>2-(intOf i).toNat)
 case atStart=>exact Or.inl ⟨rfl,rfl⟩
 case round =>
  rcases hrel with ⟨rfl,rfl⟩|⟨rfl,rfl⟩|⟨rfl,rfl⟩
  ·go_wp2
   exact ⟨Or.inr (Or.inl ⟨rfl,rfl⟩),by decide⟩
  ·go_wp2
   exact ⟨Or.inr (Or.inr ⟨rfl,rfl⟩),by decide⟩
  ·have HG:Hid (∀ W:World,Calls Tryz.prog 44 #[.slice none 0 0,.int .i64 ((n1:Int)+n2)] W λe w'=>∃ v,e = .returned v/\w'.ownsRow W.heap.size 66 3 v 0 []/\Below W.heap.size W w'):=by
    intro W
    by_cases h0:n1+n2=0
    ·have e0:((n1:Int)+n2)=0:=by omega
     rw [e0]
     exact (grow0Wr W).mono λe w' hh=>⟨_,hh.1,⟨rfl,Or.inl ⟨rfl,rfl⟩⟩,hh.2 ▸ st0 W⟩
    ·have e0:((n1:Int)+n2)=((n1+n2:Nat):Int):=by omega
     rw [e0]
     exact (grow1Wr _ (by omega) hl W).mono λe w' ⟨cap,he,ho,hb⟩=>⟨_,he,ho,hb⟩
   go_wp2_with (go_at_call 44;refine (HG.out _).mono ?_;rintro e w1 ⟨v,rfl,hv,hb1⟩;have HV:=hid hv;clear hv)
   go_loopw [6,27] (λs i wr=>∃ (n:Nat) (xs:List Value),wr.ownsRow w.heap.size 66 3 s n xs/\Below w.heap.size w wr/\((i = .int .i64 0/\n=0/\xs=[]) \/ (i = .int .i64 1/\n=n1/\xs=x1) \/ (i = .int .i64 2/\n=n1+n2/\xs=x1++x2))) (λ_ i _=>2-(intOf i).toNat)
   case atStart=>exact ⟨0,[],HV.out,hb1,Or.inl ⟨rfl,rfl,rfl⟩⟩
   case round =>
    obtain ⟨n,xs,hown,hbl,hcase⟩:=hrel
    have HO:=hid hown
    have hsz:=hbl.size
    obtain ⟨kk,ff⟩:=bcell hbl
    clear hown
    rcases hcase with ⟨rfl,hn0,hx0⟩|⟨rfl,hn0,hx0⟩|⟨rfl,hn0,hx0⟩
    ·have hxs:=hid hx0
     have hns:=hid hn0
     have hbd:n+n1<=100000:=by omega
     clear hx0 hn0
     go_wp2_with (at_builtin;refine zaN Tryz.underlying48 zbV rfl (by omega) (by omega) (by rfl) _ _ (by rfl) (by rfl) HO.out _ (by rfl) (H1.out.kept hbl) Q1.out hbd hsz ?_;intro v' w' hown' hb')
     refine ⟨⟨n1,x1,?_,hbl.trans hb',Or.inr (Or.inl ⟨rfl,rfl,rfl⟩)⟩,by decide⟩
     rw [hxs.out,hns.out] at hown'
     simpa using hown'
    ·have hxs:=hid hx0
     have hns:=hid hn0
     have hbd:n+n2<=100000:=by omega
     clear hx0 hn0
     go_wp2_with (at_builtin;refine zaN Tryz.underlying48 zbV rfl (by omega) (by omega) (by rfl) _ _ (by rfl) (by rfl) HO.out _ (by rfl) (H2.out.kept hbl) Q2.out hbd hsz ?_;intro v' w' hown' hb')
     refine ⟨⟨n1+n2,x1++x2,?_,hbl.trans hb',Or.inr (Or.inr ⟨rfl,rfl,rfl⟩)⟩,by decide⟩
     rw [hxs.out,hns.out] at hown'
     exact hown'
    ·have hxs:=hid hx0
     have hns:=hid hn0
     clear hx0 hn0
     go_wp2
     go_ret
     have ho:=HO.out
     rw [hxs.out,hns.out] at ho
     exact ⟨_,rfl,ho,hbl⟩
/-! ### bytes -/
def gRenBy:Go.Shelf.Ren:=⟨fun|4=>43|n=>n,fun|0=>0|3=>3|4=>4|9=>9|20=>20|22=>26|25=>5|n=>n,fun|n=>n⟩
theorem gLayBy:Go.Proofs.Lays8.n4 Tryz.prog gRenBy:={
 mixed:=by kernel_rfl
 f4:=⟨Tryz.f43.name,by kernel_rfl,Tryz.func43.trans (congrArg some (by kernel_rfl))⟩
 t0:=Tryz.underlying0
 a0:=Tryz.isAgg0
 z0:=Tryz.sizeOf0
 v0:=Tryz.zeroValue0
 t3:=Tryz.underlying3
 a3:=Tryz.isAgg3
 z3:=Tryz.sizeOf3
 v3:=Tryz.zeroValue3
 t4:=Tryz.underlying4
 a4:=Tryz.isAgg4
 z4:=Tryz.sizeOf4
 v4:=Tryz.zeroValue4
 t9:=Tryz.underlying9
 a9:=Tryz.isAgg9
 z9:=Tryz.sizeOf9
 v9:=Tryz.zeroValue9
 t20:=Tryz.underlying20
 a20:=Tryz.isAgg20
 z20:=Tryz.sizeOf20
 v20:=Tryz.zeroValue20
 t22:=Tryz.underlying26
 a22:=Tryz.isAgg26
 z22:=Tryz.sizeOf26
 v22:=Tryz.zeroValue26 }
theorem grow0By (w:World):Calls Tryz.prog 43 #[.slice none 0 0,.int .i64 0] w λe w'=>e = .returned (.slice none 0 0)/\w'=w :=
 Any8.slices_Grow_room gLayBy none 0 0 0 w (by omega) (by omega) (by omega) (by omega)
theorem grow1By (n:Nat) (h0:0<n) (h1:n<=100000) (w:World):Calls Tryz.prog 43 #[.slice none 0 0,.int .i64 n] w λe w'=>∃ cap,e = .returned (.slice (some ⟨w.heap.size,0,none⟩) 0 cap)/\w'.ownsRow w.heap.size 5 1 (.slice (some ⟨w.heap.size,0,none⟩) 0 cap) 0 []/\Below w.heap.size w w':=by
 obtain ⟨i0,hi0,hz0,hz1,hz2⟩:=info_parts za4
 refine (Any8.slices_Grow_grow gLayBy i0 _ hi0 hz0 (by omega) none 0 0 n [] w (by omega) (by omega) (by rw [hz2];omega) (by omega) (by simp) (λ_=>rfl) (λa h=>by cases h)).mono λe w' hh=>?_
 obtain ⟨he,hw⟩:=hh
 have hge:=grownCap_ge w (0+n) 0 (gRenBy.t 25)
 have hle:=grownCap_le_maxLen w (0+n) 0 (gRenBy.t 25) (by unfold maxLen;omega)
 refine ⟨_,he,?_,?_⟩
 ·rw [hw]
  refine ⟨by simp,Or.inr ⟨w.heap.size,_,_,rfl,Nat.le_refl _,heap_alloc_new w.drew _,by omega,hle,?_,by simp⟩⟩
  have e1:(.int .u8 0:Value).cells.size=1:=rfl
  simp only [Array.size_append,List.size_toArray,size_zeroCells,e1,List.length_nil]
  omega
 ·rw [hw];exact stA (st0 w).drew _
theorem catBy (g:Nat) (v1 v2:Value) (n1 n2:Nat) (x1 x2:List Value) (w:World) (h1:RwAt w v1 n1 1 x1) (h2:RwAt w v2 n2 1 x2) (q1:∀ u∈x1,u.oneCell'=true) (q2:∀ u∈x2,u.oneCell'=true) (c1:w.cell? ⟨g,0,none⟩=some v1) (c2:w.cell? ⟨g,1,none⟩=some v2) (hl:n1+n2<=100000) :
 Calls Tryz.prog 16 #[.slice (some ⟨g,0,none⟩) 2 2] w λe w'=>∃ v,e = .returned v/\w'.ownsRow w.heap.size 5 1 v (n1+n2) (x1++x2)/\Below w.heap.size w w':=by
 have hg:g<w.heap.size:=World.block_lt_of_cell? w _ c1
 have H1:=hid h1
 have H2:=hid h2
 obtain ⟨a1,k1,e1⟩:=h1.len
 obtain ⟨a2,k2,e2⟩:=h2.len
 subst e1 e2
 have Q1:=hid q1
 have Q2:=hid q2
 clear h1 h2 q1 q2
 have b1:¬ (n1:Int)<0:=by omega
 have b2:¬ ((n1:Int)+n2)<0:=by omega
 go_enter Tryz.func16,Tryz.ntmps16
 go_wp2
 go_loop [3,11] (λn i=>(i = .int .i64 0/\n = .int .i64 0) \/ (i = .int .i64 1/\n = .int .i64 n1) \/ (i = .int .i64 2/\n = .int .i64 (n1+n2))) (λ_ i=>2-(intOf i).toNat)
 case atStart=>exact Or.inl ⟨rfl,rfl⟩
 case round =>
  rcases hrel with ⟨rfl,rfl⟩|⟨rfl,rfl⟩|⟨rfl,rfl⟩
  ·go_wp2
   exact ⟨Or.inr (Or.inl ⟨rfl,rfl⟩),by decide⟩
  ·go_wp2
   exact ⟨Or.inr (Or.inr ⟨rfl,rfl⟩),by decide⟩
  ·have HG:Hid (∀ W:World,Calls Tryz.prog 43 #[.slice none 0 0,.int .i64 ((n1:Int)+n2)] W λe w'=>∃ v,e = .returned v/\w'.ownsRow W.heap.size 5 1 v 0 []/\Below W.heap.size W w'):=by
    intro W
    by_cases h0:n1+n2=0
    ·have e0:((n1:Int)+n2)=0:=by omega
     rw [e0]
     exact (grow0By W).mono λe w' hh=>⟨_,hh.1,⟨rfl,Or.inl ⟨rfl,rfl⟩⟩,hh.2 ▸ st0 W⟩
    ·have e0:((n1:Int)+n2)=((n1+n2:Nat):Int):=by omega
     rw [e0]
     exact (grow1By _ (by omega) hl W).mono λe w' ⟨cap,he,ho,hb⟩=>⟨_,he,ho,hb⟩
   go_wp2_with (go_at_call 43;refine (HG.out _).mono ?_;rintro e w1 ⟨v,rfl,hv,hb1⟩;have HV:=hid hv;clear hv)
   go_loopw [6,27] (λs i wr=>∃ (n:Nat) (xs:List Value),wr.ownsRow w.heap.size 5 1 s n xs/\Below w.heap.size w wr/\((i = .int .i64 0/\n=0/\xs=[]) \/ (i = .int .i64 1/\n=n1/\xs=x1) \/ (i = .int .i64 2/\n=n1+n2/\xs=x1++x2))) (λ_ i _=>2-(intOf i).toNat)
   case atStart=>exact ⟨0,[],HV.out,hb1,Or.inl ⟨rfl,rfl,rfl⟩⟩
   case round =>
    obtain ⟨n,xs,hown,hbl,hcase⟩:=hrel
    have HO:=hid hown
    have hsz:=hbl.size
    obtain ⟨kk,ff⟩:=bcell hbl
    clear hown
    rcases hcase with ⟨rfl,hn0,hx0⟩|⟨rfl,hn0,hx0⟩|⟨rfl,hn0,hx0⟩
    ·have hxs:=hid hx0
     have hns:=hid hn0
     have hbd:n+n1<=100000:=by omega
     clear hx0 hn0
     go_wp2_with (at_builtin;refine zaN Tryz.underlying26 za4 rfl (by omega) (by omega) (by rfl) _ _ (by rfl) (by rfl) HO.out _ (by rfl) (H1.out.kept hbl) Q1.out hbd hsz ?_;intro v' w' hown' hb')
     refine ⟨⟨n1,x1,?_,hbl.trans hb',Or.inr (Or.inl ⟨rfl,rfl,rfl⟩)⟩,by decide⟩
     rw [hxs.out,hns.out] at hown'
     simpa using hown'
    ·have hxs:=hid hx0
     have hns:=hid hn0
     have hbd:n+n2<=100000:=by omega
     clear hx0 hn0
     go_wp2_with (at_builtin;refine zaN Tryz.underlying26 za4 rfl (by omega) (by omega) (by rfl) _ _ (by rfl) (by rfl) HO.out _ (by rfl) (H2.out.kept hbl) Q2.out hbd hsz ?_;intro v' w' hown' hb')
     refine ⟨⟨n1+n2,x1++x2,?_,hbl.trans hb',Or.inr (Or.inr ⟨rfl,rfl,rfl⟩)⟩,by decide⟩
     rw [hxs.out,hns.out] at hown'
     exact hown'
    ·have hxs:=hid hx0
     have hns:=hid hn0
     clear hx0 hn0
     go_wp2
     go_ret
     have ho:=HO.out
     rw [hxs.out,hns.out] at ho
     exact ⟨_,rfl,ho,hbl⟩
theorem zf9 {w:World} {v:Value} {l:List UInt8} (h:sliceAt w v l):RwAt w v l.length 1 (bcs l):=by
 refine ⟨by simp [bcs],?_⟩
 rcases h with ⟨a,c,h1,h2⟩|⟨g,o,c,h1,h2,h3,h4⟩
 ·exact Or.inl ⟨by rw [h2];rfl,a,c,h1⟩
 ·refine Or.inr ⟨g,o,c,h1,h2,h3,λj x hj=>?_⟩
  simp only [bcs,List.getElem?_map,Option.map_eq_some_iff] at hj
  obtain ⟨cc,hc1,hc2⟩:=hj
  rw [<- hc2]
  exact h4 j cc hc1
theorem zga {P:Program} {w:World} {t:TypeId} {xs ys:Array Value} (h:(binOp .eql t (.agg xs) (.agg ys)).run P w = .ok (.bool true) w):(binOp .neq t (.agg xs) (.agg ys)).run P w = .ok (.bool false) w:=by
 rw [run_eql_struct] at h
 rw [run_neq_struct]
 revert h
 generalize Sem.run P (Op.equalIn 10000 t _ _) w=r
 intro h
 cases r with
 | ok b w' =>
  have e:Result.ok (Value.bool b) w' = .ok (.bool true) w:=h
  injection e with e1 e2
  injection e1 with e3
  subst e3 e2
  rfl
 | _=>cases h
theorem zmk (a0 a1 a2 a3 a4 a5 a6 a7 a8 a9 a10 a11 a12 a13 a14 a15:Int) (d:Nat) (w:World):(Op.equalIn (d+2) 60 (.agg #[.int .u8 a0,.int .u8 a1,.int .u8 a2,.int .u8 a3,.int .u8 a4,.int .u8 a5,.int .u8 a6,.int .u8 a7,.int .u8 a8,.int .u8 a9,.int .u8 a10,.int .u8 a11,.int .u8 a12,.int .u8 a13,.int .u8 a14,.int .u8 a15]) (.agg #[.int .u8 a0,.int .u8 a1,.int .u8 a2,.int .u8 a3,.int .u8 a4,.int .u8 a5,.int .u8 a6,.int .u8 a7,.int .u8 a8,.int .u8 a9,.int .u8 a10,.int .u8 a11,.int .u8 a12,.int .u8 a13,.int .u8 a14,.int .u8 a15])).run Tryz.prog w = .ok true w:=by
 have u3:=Tryz.underlying5
 have x3:=Tryz.isAgg5
 have z3:=Tryz.sizeOf5
 have hU:Tryz.prog.cellsOf 5=1:=by kernel_rfl
 have hs:(Tryz.prog.info? 5).isSome=true:=by kernel_rfl
 obtain ⟨i,hi⟩:=Option.isSome_iff_exists.1 hs
 rw [run_equalIn_array w (d+1) _ _ Tryz.underlying60 hi,hU]
 simp only [List.range,List.range.loop,Op.eqItems]
 go_simp
theorem zgE (f l:Int) (a0 a1 a2 a3 a4 a5 a6 a7 a8 a9 a10 a11 a12 a13 a14 a15:Int) (w:World):(binOp .eql 62 (.agg #[.int .i64 f,.int .i64 l,.int .u8 a0,.int .u8 a1,.int .u8 a2,.int .u8 a3,.int .u8 a4,.int .u8 a5,.int .u8 a6,.int .u8 a7,.int .u8 a8,.int .u8 a9,.int .u8 a10,.int .u8 a11,.int .u8 a12,.int .u8 a13,.int .u8 a14,.int .u8 a15]) (.agg #[.int .i64 f,.int .i64 l,.int .u8 a0,.int .u8 a1,.int .u8 a2,.int .u8 a3,.int .u8 a4,.int .u8 a5,.int .u8 a6,.int .u8 a7,.int .u8 a8,.int .u8 a9,.int .u8 a10,.int .u8 a11,.int .u8 a12,.int .u8 a13,.int .u8 a14,.int .u8 a15])).run Tryz.prog w = .ok (.bool true) w:=by
 have u3:=Tryz.underlying3
 have x3:=Tryz.isAgg3
 have z3:=Tryz.sizeOf3
 have x5:=Tryz.isAgg60
 have z5:=Tryz.sizeOf60
 have ha:=zmk a0 a1 a2 a3 a4 a5 a6 a7 a8 a9 a10 a11 a12 a13 a14 a15 9997
 have hS:Tryz.prog.underlying 62=some (.struct (Tryz.prog.fieldsOf 62)):=by kernel_rfl
 have hp:Tryz.prog.stoodInHeld 62=false:=by kernel_rfl
 rw [run_eql_struct,show (10000:Nat)=9999+1 from rfl,run_equalIn_agg w 9999 62 _ _ hS hp]
 simp only [Program.fieldsOf,Tryz.underlying62]
 go_simp
theorem zgF (c a v:Int) (w:World):(binOp .eql 66 (.agg #[.int .i64 c,.int .i64 a,.int .u8 v]) (.agg #[.int .i64 c,.int .i64 a,.int .u8 v])).run Tryz.prog w = .ok (.bool true) w:=by
 have u3:=Tryz.underlying3
 have x3:=Tryz.isAgg3
 have z3:=Tryz.sizeOf3
 have u5:=Tryz.underlying5
 have x5:=Tryz.isAgg5
 have z5:=Tryz.sizeOf5
 have hS:Tryz.prog.underlying 66=some (.struct (Tryz.prog.fieldsOf 66)):=by kernel_rfl
 have hp:Tryz.prog.stoodInHeld 66=false:=by kernel_rfl
 rw [run_eql_struct,show (10000:Nat)=9999+1 from rfl,run_equalIn_agg w 9999 66 _ _ hS hp]
 simp only [Program.fieldsOf,Tryz.underlying66]
 go_simp
def linC (x:Lin):List Value:=.int .i64 x.f :: .int .i64 x.l::row16 x.px
def wrtC (x:Wt):List Value:=[.int .i64 x.c,.int .i64 x.a,.int .u8 x.v]
theorem zh4 (x:Lin) (w:World):(binOp .neq 62 (.agg (linC x).toArray) (.agg (linC x).toArray)).run Tryz.prog w = .ok (.bool false) w:=zga (zgE x.f x.l (x.px 0) (x.px 1) (x.px 2) (x.px 3) (x.px 4) (x.px 5) (x.px 6) (x.px 7) (x.px 8) (x.px 9) (x.px 10) (x.px 11) (x.px 12) (x.px 13) (x.px 14) (x.px 15) w)
theorem zgG (x:Wt) (w:World):(binOp .neq 66 (.agg (wrtC x).toArray) (.agg (wrtC x).toArray)).run Tryz.prog w = .ok (.bool false) w:=zga (zgF x.c x.a x.v w)
theorem zgH:∀ (l:List Lin) (i:Nat) (x:Lin),l[i]? = some x->∀ (j:Nat) (v:Value),(linC x)[j]? = some v->(lcs l)[i*18+j]? = some v
 | [],i,x,h=>by simp at h
 | y::l,0,x,h=>λj v hj=>by
  simp only [List.getElem?_cons_zero,Option.some.injEq] at h
  subst h
  rw [Nat.zero_mul,Nat.zero_add]
  show (linC y++lcs l)[j]? = _
  rw [List.getElem?_append_left (List.getElem?_eq_some_iff.1 hj).1]
  exact hj
 | y::l,i+1,x,h=>λj v hj=>by
  rw [List.getElem?_cons_succ] at h
  have:=zgH l i x h j v hj
  show (linC y++lcs l)[(i+1)*18+j]? = _
  have hl:(linC y).length=18:=by simp [linC,zaq]
  rw [List.getElem?_append_right (by rw [hl];omega),hl,show (i+1)*18+j-18=i*18+j by omega]
  exact this
theorem zgI:∀ (l:List Wt) (i:Nat) (x:Wt),l[i]? = some x->∀ (j:Nat) (v:Value),(wrtC x)[j]? = some v->(wcs l)[i*3+j]? = some v
 | [],i,x,h=>by simp at h
 | y::l,0,x,h=>λj v hj=>by
  simp only [List.getElem?_cons_zero,Option.some.injEq] at h
  subst h
  rw [Nat.zero_mul,Nat.zero_add]
  show (wrtC y++wcs l)[j]? = _
  rw [List.getElem?_append_left (List.getElem?_eq_some_iff.1 hj).1]
  exact hj
 | y::l,i+1,x,h=>λj v hj=>by
  rw [List.getElem?_cons_succ] at h
  have:=zgI l i x h j v hj
  show (wrtC y++wcs l)[(i+1)*3+j]? = _
  rw [List.getElem?_append_right (by simp [wrtC];omega),show (wrtC y).length=3 from rfl,show (i+1)*3+j-3=i*3+j by omega]
  exact this
theorem zhd:(Tryz.prog.info? 62).map (·.size)=some 18:=by kernel_rfl
theorem zhe:(Tryz.prog.info? 66).map (·.size)=some 3:=by kernel_rfl
theorem RwAt.range {w:World} {v:Value} {n z:Nat} {xs:List Value} (h:RwAt w v n z xs) {i:Nat} (hi:i<n) {row:List Value} (hr:∀ (j:Nat) (u:Value),row[j]? = some u->xs[i*z+j]? = some u):∃ g o cap,v = .slice (some ⟨g,o,none⟩) n cap/\g<w.heap.size/\w.rangeAt g (o+i*z) row:=by
 obtain ⟨_,⟨h0,_⟩|⟨g,o,cap,h1,h2,h3,h4⟩⟩:=h
 ·omega
 ·exact ⟨g,o,cap,h1,h3,λj u hj=>by rw [Nat.add_assoc];exact h4 _ _ (hr j u hj)⟩
theorem Lk.sameLn (v1 v2:Value) (l:List Lin) (w:World) (h1:RwAt w v1 l.length 18 (lcs l)) (h2:RwAt w v2 l.length 18 (lcs l)) (hl:l.length<=1000000) :
 Calls Tryz.prog 38 #[v1,v2] w λe w'=>e = .returned (.bool true)/\Below w.heap.size w w':=by
 obtain ⟨a1,k1,e1⟩:=h1.len
 obtain ⟨a2,k2,e2⟩:=h2.len
 subst e1 e2
 have H1:=hid h1
 have H2:=hid h2
 clear h1 h2
 go_enter Tryz.func38,Tryz.ntmps38
 go_wp2
 go_loopw [13] (λi wr=>∃ j:Nat,j<=l.length/\i = .int .i64 j/\Below w.heap.size w wr) (λi _=>l.length-(intOf i).toNat)
 case atStart=>exact ⟨0,Nat.zero_le _,rfl,st0 w⟩
 case round =>
  obtain ⟨j,hj,rfl,hb⟩:=hrel
  have HB:=hid hb
  by_cases hlt:j<l.length
  ·have hlt2:(j:Int)<l.length:=by omega
   have hj0:(0:Int)<=j:=by omega
   have hjs:(j:Int)<1000000:=by omega
   obtain ⟨x,hx⟩:∃ x,l[j]? = some x:=⟨_,List.getElem?_eq_getElem hlt⟩
   obtain ⟨g1,o1,c1,q1,z1,r1⟩:=(H1.out.kept hb).range hlt (zgH l j x hx)
   obtain ⟨g2,o2,c2,q2,z2,r2⟩:=(H2.out.kept hb).range hlt (zgH l j x hx)
   cases q1
   cases q2
   have hnq:=zh4 x
   clear hb hx
   go_upto_region 6 with fail
   refine wp_region_held_drew (S:=λw'=>w'.rangeAt g1 (o1+j*18) (linC x)/\w'.rangeAt g2 (o2+j*18) (linC x)) (by kernel_rfl) ⟨r1,r2⟩ ?_
   intro hS
   refine tqH 0 ⟨some 16,_,_,_,_,none⟩ hS ?_
   simp only [Act.put,xA,xB,xC]
   refine tqH 1 ⟨some 17,_,_,_,_,none⟩ hS ?_
   simp only [Act.put,xA,xB,xC]
   refine tqH 2 ⟨some 18,_,_,_,_,none⟩ hS ?_
   simp only [Act.put,xA,xB,xC]
   refine wpAnyH_take (i:=3) (oi:=⟨some 19,_,_,_,_,none⟩) (v:=.agg (linC x).toArray) rfl (by kernel_rfl) (by kernel_rfl) (by kernel_rfl) (λ_ _ _ h=>h) (Or.inl ⟨by rfl,λw' hSw=>zai 62 _ rfl g1 (o1+j*18) rfl (linC x) _ hSw.1 Tryz.underlying62 rfl zhd⟩) hS ?_
   simp only [Act.put,xA,xB,xC]
   refine tqH 4 ⟨some 20,_,_,_,_,none⟩ hS ?_
   simp only [Act.put,xA,xB,xC]
   refine tqH 5 ⟨some 21,_,_,_,_,none⟩ hS ?_
   simp only [Act.put,xA,xB,xC]
   refine tqH 6 ⟨some 22,_,_,_,_,none⟩ hS ?_
   simp only [Act.put,xA,xB,xC]
   refine wpAnyH_take (i:=7) (oi:=⟨some 23,_,_,_,_,none⟩) (v:=.agg (linC x).toArray) rfl (by kernel_rfl) (by kernel_rfl) (by kernel_rfl) (λ_ _ _ h=>h) (Or.inl ⟨by rfl,λw' hSw=>zai 62 _ rfl g2 (o2+j*18) rfl (linC x) _ hSw.2 Tryz.underlying62 rfl zhd⟩) hS ?_
   simp only [Act.put,xA,xB,xC]
   refine tqH 8 ⟨some 24,_,_,_,_,none⟩ hS ?_
   simp only [Act.put,xA,xB,xC]
   refine wpAnyH_done (by kernel_rfl) ?_ _
   clear hS r1 r2
   go_wp2
   exact ⟨⟨j+1,by omega,by simp,HB.out.drew⟩,by simp [intOf];omega⟩
  ·have hnl:¬ (j:Int)<l.length:=by omega
   clear hb
   go_wp2
   go_ret
   exact ⟨rfl,HB.out⟩
theorem Lk.sameWr (v1 v2:Value) (l:List Wt) (w:World) (h1:RwAt w v1 l.length 3 (wcs l)) (h2:RwAt w v2 l.length 3 (wcs l)) (hl:l.length<=1000000) :
 Calls Tryz.prog 39 #[v1,v2] w λe w'=>e = .returned (.bool true)/\Below w.heap.size w w':=by
 obtain ⟨a1,k1,e1⟩:=h1.len
 obtain ⟨a2,k2,e2⟩:=h2.len
 subst e1 e2
 have H1:=hid h1
 have H2:=hid h2
 clear h1 h2
 go_enter Tryz.func39,Tryz.ntmps39
 go_wp2
 go_loopw [13] (λi wr=>∃ j:Nat,j<=l.length/\i = .int .i64 j/\Below w.heap.size w wr) (λi _=>l.length-(intOf i).toNat)
 case atStart=>exact ⟨0,Nat.zero_le _,rfl,st0 w⟩
 case round =>
  obtain ⟨j,hj,rfl,hb⟩:=hrel
  have HB:=hid hb
  by_cases hlt:j<l.length
  ·have hlt2:(j:Int)<l.length:=by omega
   have hj0:(0:Int)<=j:=by omega
   have hjs:(j:Int)<1000000:=by omega
   obtain ⟨x,hx⟩:∃ x,l[j]? = some x:=⟨_,List.getElem?_eq_getElem hlt⟩
   obtain ⟨g1,o1,c1,q1,z1,r1⟩:=(H1.out.kept hb).range hlt (zgI l j x hx)
   obtain ⟨g2,o2,c2,q2,z2,r2⟩:=(H2.out.kept hb).range hlt (zgI l j x hx)
   cases q1
   cases q2
   have hnq:=zgG x
   clear hb hx
   go_upto_region 6 with fail
   refine wp_region_held_drew (S:=λw'=>w'.rangeAt g1 (o1+j*3) (wrtC x)/\w'.rangeAt g2 (o2+j*3) (wrtC x)) (by kernel_rfl) ⟨r1,r2⟩ ?_
   intro hS
   refine tqH 0 ⟨some 16,_,_,_,_,none⟩ hS ?_
   simp only [Act.put,xA,xB,xC]
   refine tqH 1 ⟨some 17,_,_,_,_,none⟩ hS ?_
   simp only [Act.put,xA,xB,xC]
   refine tqH 2 ⟨some 18,_,_,_,_,none⟩ hS ?_
   simp only [Act.put,xA,xB,xC]
   refine wpAnyH_take (i:=3) (oi:=⟨some 19,_,_,_,_,none⟩) (v:=.agg (wrtC x).toArray) rfl (by kernel_rfl) (by kernel_rfl) (by kernel_rfl) (λ_ _ _ h=>h) (Or.inl ⟨by rfl,λw' hSw=>zai 66 _ rfl g1 (o1+j*3) rfl (wrtC x) _ hSw.1 Tryz.underlying66 rfl zhe⟩) hS ?_
   simp only [Act.put,xA,xB,xC]
   refine tqH 4 ⟨some 20,_,_,_,_,none⟩ hS ?_
   simp only [Act.put,xA,xB,xC]
   refine tqH 5 ⟨some 21,_,_,_,_,none⟩ hS ?_
   simp only [Act.put,xA,xB,xC]
   refine tqH 6 ⟨some 22,_,_,_,_,none⟩ hS ?_
   simp only [Act.put,xA,xB,xC]
   refine wpAnyH_take (i:=7) (oi:=⟨some 23,_,_,_,_,none⟩) (v:=.agg (wrtC x).toArray) rfl (by kernel_rfl) (by kernel_rfl) (by kernel_rfl) (λ_ _ _ h=>h) (Or.inl ⟨by rfl,λw' hSw=>zai 66 _ rfl g2 (o2+j*3) rfl (wrtC x) _ hSw.2 Tryz.underlying66 rfl zhe⟩) hS ?_
   simp only [Act.put,xA,xB,xC]
   refine tqH 8 ⟨some 24,_,_,_,_,none⟩ hS ?_
   simp only [Act.put,xA,xB,xC]
   refine wpAnyH_done (by kernel_rfl) ?_ _
   clear hS r1 r2
   go_wp2
   exact ⟨⟨j+1,by omega,by simp,HB.out.drew⟩,by simp [intOf];omega⟩
  ·have hnl:¬ (j:Int)<l.length:=by omega
   clear hb
   go_wp2
   go_ret
   exact ⟨rfl,HB.out⟩
structure ShAt (w : World) (v1 v2 v3 : Value) (ln : List Lin) (sm : List UInt8) (ws : List Wt) : Prop where
 ln:RwAt w v1 ln.length 18 (lcs ln)
 sm:sliceAt w v2 sm
 ws:RwAt w v3 ws.length 3 (wcs ws)
theorem ShAt.kept {w w1:World} {v1 v2 v3:Value} {ln:List Lin} {sm:List UInt8} {ws:List Wt} (h:ShAt w v1 v2 v3 ln sm ws) (hb:Below w.heap.size w w1):ShAt w1 v1 v2 v3 ln sm ws:=⟨h.ln.kept hb,h.sm.kept hb,h.ws.kept hb⟩
theorem Lk.sameShown (v1 v2 v3 u1 u2 u3:Value) (ln:List Lin) (sm:List UInt8) (ws:List Wt) (w:World) (h:ShAt w v1 v2 v3 ln sm ws) (k:ShAt w u1 u2 u3 ln sm ws) (h1:ln.length<=1000000) (h3:ws.length<=1000000) :
 Calls Tryz.prog 13 #[.agg #[v1,v2,v3],.agg #[u1,u2,u3]] w λe w'=>e = .returned (.bool true)/\Below w.heap.size w w':=by
 obtain ⟨a1,k1,e1⟩:=h.ln.len
 obtain ⟨a2,k2,e2⟩:=zaF h.sm
 obtain ⟨a3,k3,e3⟩:=h.ws.len
 obtain ⟨b1,m1,f1⟩:=k.ln.len
 obtain ⟨b2,m2,f2⟩:=zaF k.sm
 obtain ⟨b3,m3,f3⟩:=k.ws.len
 subst e1 e2 e3 f1 f2 f3
 have H:=hid h
 have K:=hid k
 have HL1:=hid h1
 have HL3:=hid h3
 clear h k h1 h3
 go_enter Tryz.func13,Tryz.ntmps13
 go_wp2_with (first
  | (go_at_call 38;refine (Lk.sameLn _ _ ln _ (H.out.kept (stA (stA (st0 w) _) _)).ln (K.out.kept (stA (stA (st0 w) _) _)).ln HL1.out).mono ?_;rintro e w1 ⟨rfl,hb1⟩;have HB1:=hid (stp (stA (stA (st0 w) (.cells #[.slice a1 ln.length k1,.slice a2 sm.length k2,.slice a3 ws.length k3] 50)) (.cells #[.slice b1 ln.length m1,.slice b2 sm.length m2,.slice b3 ws.length m3] 50)) hb1);obtain ⟨kk1,ff1⟩:=bcell hb1;have zz1:w.heap.size+1<w1.heap.size:=by have:=hb1.size;simp at this;omega)
  | (go_at_call 37;refine (zfE _ _ sm sm _ (H.out.kept HB1.out).sm (K.out.kept HB1.out).sm).mono ?_;rw [beq_self_eq_true];rintro e w2 ⟨rfl,rfl⟩)
  | (go_at_call 39;refine (Lk.sameWr _ _ ws _ (H.out.kept HB1.out).ws (K.out.kept HB1.out).ws HL3.out).mono ?_;rintro e w3 ⟨rfl,hb3⟩;have HB3:=hid (stp HB1.out hb3)))
 go_ret
 exact ⟨rfl,HB3.out⟩
structure RX (w5 : World) (X : Mach) (SX : Sl) (p1 p2 p3 : Value) (k : Cs) (Y : World) : Prop where
 r:R3 w5 X SX [p1,p2,p3] Y
 sx:SlAt Y SX X
 sh:ShAt Y p1 p2 p3 k.ln k.sm k.s.l
theorem RX.kept {w5:World} {X:Mach} {SX:Sl} {p1 p2 p3:Value} {k:Cs} {Y Y':World} (h:RX w5 X SX p1 p2 p3 k Y) (hb:Below Y.heap.size Y Y'):RX w5 X SX p1 p2 p3 k Y':=⟨h.r.kept hb,h.sx.kept hb,h.sh.kept hb⟩
theorem sh_of {F:Fx} {N:Nat} {k:Cs} {vln vsm vw:Value} {w:World} (h:Told F N k vln vsm vw w):ShAt w vln vsm vw k.ln k.sm k.s.l:=⟨zfw h.ln,zaL h.sm,zfw h.ws⟩
end Go.Proofs.YtbennamieealbaaGreatDoor
