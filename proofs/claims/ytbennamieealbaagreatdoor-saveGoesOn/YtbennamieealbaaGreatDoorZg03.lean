/-
  Parts of a proof, joined.
-/
import Derived.Test.YtbennamieealbaaGreatDoorZg02
import Derived.Laws.BytesArg
import Derived.Lib.Builder
import Derived.Laws.AppendOwnNone
import Derived.Deep.AppendLies
import Derived.Shelf.Spec.SlicesGrow
import Derived.Test.YtbennamieealbaaGreatDoorZg01
import Derived.Laws.EntriesVeiled
set_option linter.unusedVariables false
set_option maxRecDepth 100000
namespace Go.Proofs.YtbennamieealbaaGreatDoor
open Go.ChangeShapes Go.WideShapes Go.ChangeAt Go.RowKit
def mk (l:List UInt8):ByteArray:=⟨l.toArray⟩
theorem zia (l:List UInt8):(mk l).toList=l:=by rw [ByteArray.toList_eq];rfl
def bcs (l:List UInt8):List Value:=l.map (λc=>Value.int .u8 c.toNat)
def bytesAt (w:World) (g o:Nat) (l:List UInt8):Prop:=∀ (j:Nat) (c:UInt8),l[j]? = some c->w.cell? ⟨g,o+j,none⟩=some (.int .u8 c.toNat)
theorem bytesAt.kept {w w':World} {g o B:Nat} {l:List UInt8} (h:bytesAt w g o l) (hb:Below B w w') (hB:g<B):bytesAt w' g o l:=λj c hj=>(hb.cell hB).trans (h j c hj)
def sliceAt (w:World) (v:Value) (l:List UInt8):Prop:=(∃ a cap,v = .slice a 0 cap/\l=[]) \/ ∃ g o cap,v = .slice (some ⟨g,o,none⟩) l.length cap/\l.length<=cap/\g<w.heap.size/\bytesAt w g o l
theorem sliceAt.kept {w w':World} {v:Value} {l:List UInt8} (h:sliceAt w v l) (hb:Below w.heap.size w w'):sliceAt w' v l:=by
 rcases h with h|⟨g,o,cap,h1,h2,h3,h4⟩
 ·exact Or.inl h
 ·exact Or.inr ⟨g,o,cap,h1,h2,Nat.lt_of_lt_of_le h3 hb.size,h4.kept hb h3⟩
theorem zaF {w:World} {v:Value} {l:List UInt8} (h:sliceAt w v l):∃ a c,v = .slice a l.length c:=by
 rcases h with ⟨a,c,h1,rfl⟩|⟨g,o,c,h1,_⟩
 ·exact ⟨a,c,h1⟩
 ·exact ⟨_,c,h1⟩
theorem zaL {w:World} {B:Nat} {v:Value} {l:List UInt8} (h:w.ownsRow B 5 1 v l.length (bcs l)):sliceAt w v l:=by
 rcases h.2 with ⟨rfl,h0⟩|⟨g,cap,cur,rfl,hb,hg,hn,hm,hs,ht⟩
 ·exact Or.inl ⟨none,0,rfl,List.length_eq_zero_iff.1 h0⟩
 ·refine Or.inr ⟨g,0,cap,rfl,hn,(Array.getElem?_eq_some_iff.1 hg).1,λj c hj=>?_⟩
  have hjl:=(List.getElem?_eq_some_iff.1 hj).1
  rw [Nat.zero_add,Lib.cell_of_heap hg j]
  have e:cur[j]? = (cur.toList.take (l.length*1))[j]?:=by rw [List.getElem?_take,if_pos (by omega)];simp
  rw [e,ht,bcs,List.getElem?_map,hj]
  rfl
theorem zbs {w w':World} {B:Nat} {v:Value} {n:Nat} {xs:List Value} (h:w.ownsRow B 5 1 v n xs) (e:∀ k,v.ownBlock=some k->w'.heap[k]? = w.heap[k]?):w'.ownsRow B 5 1 v n xs:=by
 refine ⟨h.1,?_⟩
 rcases h.2 with h2|⟨g,cap,cur,rfl,hb,hg,r⟩
 ·exact Or.inl h2
 ·exact Or.inr ⟨g,cap,cur,rfl,hb,(e g rfl).trans hg,r⟩
theorem zib (l:List UInt8) (i:Nat) (hi:i<l.length):∃ c,l[i]? = some c/\(l.map (λc=>(c.toNat:Int))).getD i 0=(c.toNat:Int):=by
 refine ⟨l[i],List.getElem?_eq_getElem hi,?_⟩
 simp [List.getD,List.getElem?_eq_getElem hi]
theorem addr_add (g o j:Nat):(⟨g,o,none⟩:Addr).add j=⟨g,o+j,none⟩:=by unfold Addr.add;split <;> simp_all
theorem zmP (l:List UInt8):strOfNums (l.map (λc=>(c.toNat:Int)))=mk l:=by
 unfold strOfNums mk
 rw [List.map_map]
 congr 2
 have:((λn:Int=>UInt8.ofNat n.toNat) ∘ λc:UInt8=>(c.toNat:Int))=id:=by funext c;simp
 rw [this,List.map_id]
theorem zgO {w:World} {v:Value} {l:List UInt8} (h:sliceAt w v l):(convert 26 9 v).run Tryz.prog w = .ok (.string (mk l)) w:=by
 rcases h with ⟨a,cap,rfl,rfl⟩|⟨g,o,cap,rfl,h2,h3,h4⟩
 ·cases a with
  | none=>exact run_convert_bytes_nil w 26 5 Tryz.underlying26 Tryz.underlying5 0 cap 9 Tryz.underlying9
  | some a =>
   have hl:(loadCells a 0).run Tryz.prog w = .ok (([]:List Int).map (Value.int .u8)).toArray w:=run_loadCells_list (P:=Tryz.prog) w a [] (λj v hj=>by simp at hj)
   rw [run_convert_bytes_string w 26 9 5 _ 0 cap Tryz.underlying26 Tryz.underlying5 Tryz.underlying9,run_bytesToString w a 0 cap [] hl]
   rfl
 ·have:=run_convert_bytes_arg (P:=Tryz.prog) w 26 5 Tryz.underlying26 Tryz.underlying5 g o l.length cap (l.map (λc=>(c.toNat:Int))) (by simp) (λi hi=>by
   obtain ⟨c,hc,hg⟩:=zib l i hi
   rw [hg];exact h4 i c hc) 9 Tryz.underlying9
  rw [zmP] at this
  exact this
theorem info_parts {i:Option TypeInfo} {z:Value} {s y:Nat} (h:i.map (λi=>(i.zero,i.size,i.bytes))=some (some z,s,y)):∃ i0,i=some i0/\i0.zero=some z/\i0.size=s/\i0.bytes=y:=by
 cases i with
 | none=>cases h
 | some i0 =>
  simp only [Option.map_some,Option.some.injEq,Prod.mk.injEq] at h
  exact ⟨i0,rfl,h.1,h.2.1,h.2.2⟩
theorem zfE (v1 v2:Value) (l1 l2:List UInt8) (w:World) (h1:sliceAt w v1 l1) (h2:sliceAt w v2 l2) :
 Calls Tryz.prog 37 #[v1,v2] w λe w'=>e = .returned (.bool (l1 == l2))/\w=w':=by
 have c1:=zgO h1
 have c2:=zgO h2
 go_enter Tryz.func37,Tryz.ntmps37
 go_wp2
 go_ret
 exact ⟨by simp [zia],rfl⟩
theorem za4:(Tryz.prog.info? 5).map (λi=>(i.zero,i.size,i.bytes))=some (some (.int .u8 0),1,1):=by kernel_rfl
theorem zbi (a b:List UInt8):bcs a++bcs b=bcs (a++b):=by simp [bcs]
theorem appendNo (B:Nat) (i:TypeInfo) (hi:Tryz.prog.info? 5=some i) (ty:TypeId) (v:Value) (n:Nat) (xs:List Value) {w:World} (hown:w.ownsRow B 5 1 v n xs) (a:Option Addr) (c:Nat) :
 (Builtin.append_ #[26,26] ty #[v,.slice a 0 c]).run Tryz.prog w = .ok v w:=by
 have hu:=run_underlying (P:=Tryz.prog) Tryz.underlying26
 have hf:(Builtin.firstCells i.size 0 (.slice a 0 c)).run Tryz.prog w = .ok #[] w:=by
  cases a with
  | none=>exact run_firstCells_none w i.size 0 0 c
  | some a=>exact run_firstCells_some w i.size 0 a 0 c [] (by simp) (λj v hj=>by simp at hj)
 rcases hown.2 with ⟨rfl,rfl⟩|⟨g,cap,cur,rfl,_,_,hnc,_⟩
 ·simp [Builtin.append_,hu,sizeOf,typeInfo,hi,Builtin.lenOf,hf]
 ·simp [Builtin.append_,hu,sizeOf,typeInfo,hi,Builtin.lenOf,hf,hnc,storeCells]
theorem zc9 {ops:Array Oper} {rest:List Oper} {o:Oper} {a:Act} {w:World} {Q:Exit->Act->World->Prop} (hgd:o.guard=none) (s x:Operand) (ho:o.op = .call { callee:=.builtin .append,args:=#[s,x],argTypes:=#[26,26] })
 (B:Nat) (v:Value) (xs:List UInt8) (hs:a.eval s=v) (hown:w.ownsRow B 5 1 v xs.length (bcs xs)) (xv:Value) (hx:a.eval x=xv) (l:List UInt8) (hl:sliceAt w xv l) (hb:xs.length+l.length<=100000) (hB:B<=w.heap.size)
 (h:∀ v' w',w'.ownsRow B 5 1 v' (xs++l).length (bcs (xs++l))->Below B w w'->wpList Tryz.prog ops Q rest (a.put o.dst v') w'):wpList Tryz.prog ops Q (o::rest) a w:=by
 obtain ⟨i0,hi0,hz0,hz1,hz2⟩:=info_parts za4
 by_cases hl0:l=[]
 ·subst hl0
  have hxv:∃ ad c,xv = .slice ad 0 c:=by
   rcases hl with ⟨ad,c,h1,_⟩|⟨g,o',c,h1,_⟩
   ·exact ⟨ad,c,h1⟩
   ·exact ⟨_,c,h1⟩
  obtain ⟨ad,c,rfl⟩:=hxv
  refine wpList_plain hgd λK hK=>?_
  have hrun:=appendNo B i0 hi0 o.type v xs.length (bcs xs) hown ad c
  unfold Oper.wp
  simp [execOp,ho,resolve,invoke,builtin,hs,hx,hrun,Result.andThen]
  exact hK _ _ (h v w (by simpa using hown) (Below.refl _ _))
 ·rcases hl with ⟨ad,c,_,h2⟩|⟨g,o',c,h1,h2,h3,h4⟩
  ·exact absurd h2 hl0
  ·have hlen:0<l.length:=by cases l with|nil=>exact absurd rfl hl0|cons _ _=>simp
   refine wpList_append_lies _ hgd s x _ ho B 5 i0 _ 1 1 Tryz.underlying26 hi0 hz0 hz1 hz2 rfl (by omega) v xs.length (bcs xs) hs hown ⟨g,o',none⟩ l.length c (bcs l) (hx.trans h1) (by simp [bcs]) (λj u hj=>?_) (λu hu=>?_) hlen (by unfold maxLen;omega) (by omega) hB w.heap.size rfl ?_
   ·simp only [bcs,List.getElem?_map,Option.map_eq_some_iff] at hj
    obtain ⟨cc,hc1,hc2⟩:=hj
    rw [<- hc2,show (⟨g,o',none⟩:Addr).add j=⟨g,o'+j,none⟩ by unfold Addr.add;split <;> simp_all]
    exact h4 j cc hc1
   ·simp only [bcs,List.mem_map] at hu
    obtain ⟨cc,_,rfl⟩:=hu
    rfl
   ·intro g' cap w' hown' hgrow _ _
    refine h _ w' ?_ ((Below.refl B w).grown hgrow hB (λk hk=>(hown.lt k hk).1))
    rw [List.length_append,<- zbi];exact hown'
abbrev scs (s:Sd):List Value:=[.int .u16 s.a.p,.int .u16 s.a.c,.int .u8 s.a.l,.bool s.a.h,.int .u16 s.a.n,.int .u16 s.b.p,.int .u16 s.b.c,.int .u8 s.b.l,.bool s.b.h,.int .u16 s.b.n,.int .u16 s.c.p,.int .u16 s.c.c,.int .u8 s.c.l,.bool s.c.h,.int .u16 s.c.n,.int .i64 s.w]
abbrev zs:List Value:=[.int .u16 0,.int .u16 0,.int .u8 0,.bool false,.int .u16 0,.int .u16 0,.int .u16 0,.int .u8 0,.bool false,.int .u16 0,.int .u16 0,.int .u16 0,.int .u8 0,.bool false,.int .u16 0,.int .i64 0]
theorem zeZ {w w':World} {B n:Nat} {v:Value} {xs:List Value} (h:w.ownsRow B 5 1 v n xs) (hb:Below w.heap.size w w'):w'.ownsRow B 5 1 v n xs:=zbs h (λk hk=>hb.block k (h.lt k hk).2)
theorem zic {w:World} {B n b o:Nat} {v:Value} {xs:List Value} (h:w.ownsRow B 5 1 v n xs) (hb:b<B) (x:Value):(w.setCell ⟨b,o,none⟩ x).ownsRow B 5 1 v n xs:=zbs h (λk hk=>by
 have:=h.lt k hk
 exact Below.heap_setCell w ⟨b,o,none⟩ x k (show k≠b by omega))
theorem zce {B n b:Nat} {v:Value} {xs:List Value} (hb:b<B):∀ (vs:List Value) (o:Nat) {w:World},w.ownsRow B 5 1 v n xs->(w.setCells b o vs).ownsRow B 5 1 v n xs
 | [],o,w,h=>h
 | x::vs,o,w,h=>zce hb vs (o+1) (zic h hb x)
theorem ze0 {w w':World} {B:Nat} {x:Option Nat} (h:w.grownBy w' x) (hB:B<=w.heap.size) (hx:∀ k,x=some k->B<=k):Below B w w':=(Below.refl B w).grown h hB hx
theorem app1 {ops:Array Oper} {rest:List Oper} {o:Oper} {a:Act} {w:World} {Q:Exit->Act->World->Prop} (hgd:o.guard=none) (s x:Operand) (ho:o.op = .call { callee:=.builtin .append,args:=#[s,x],argTypes:=#[26,26] })
 (B:Nat) (v:Value) (xs:List UInt8) (hs:a.eval s=v) (hown:w.ownsRow B 5 1 v xs.length (bcs xs)) (g c:Nat) (y:UInt8) (z:Int) (hx:a.eval x = .slice (some ⟨g,0,none⟩) 1 c) (hc:w.cell? ⟨g,0,none⟩=some (.int .u8 z)) (hz:z=y.toNat) (hl:xs.length<=50000) (hB:B<=w.heap.size)
 (h:∀ v' w',w'.ownsRow B 5 1 v' (xs++[y]).length (bcs (xs++[y]))->Below B w w'->wpList Tryz.prog ops Q rest (a.put o.dst v') w'):wpList Tryz.prog ops Q (o::rest) a w:=by
 obtain ⟨i0,hi0,hz0,hz1,hz2⟩:=info_parts za4
 subst hz
 refine wpList_append_own _ hgd s x _ ho B 5 i0 _ 1 1 Tryz.underlying26 hi0 hz0 hz1 hz2 rfl (by omega) v xs.length (bcs xs) hs hown ⟨g,0,none⟩ 1 c [.int .u8 y.toNat] hx rfl (λj u hj=>?_) (λu hu=>?_) (by unfold maxLen;omega) (by omega) hB ?_
 ·match j,hj with
  | 0,hj =>
   simp only [List.getElem?_cons_zero,Option.some.injEq] at hj
   rw [<- hj,addr_add];exact hc
 ·simp only [List.mem_singleton] at hu;rw [hu];rfl
 ·intro v' w' hown' hgrow _
  refine h _ w' ?_ (ze0 hgrow hB (λk hk=>(hown.lt k hk).1))
  rw [List.length_append,<- zbi];exact hown'
theorem zhi:(Tryz.prog.info? 34).map (·.size)=some 15:=by kernel_rfl
theorem zaj:(Tryz.prog.info? 36).map (·.size)=some 16:=by kernel_rfl
theorem zb5:Tryz.prog.underlying 34=some (.array 3 33):=by kernel_rfl
theorem load3 {W:World} {b:Nat} {x:Sd} (h:Bx W b (scs x)):(Instr.loadAt 34 (.pointer (some ⟨b,0,none⟩))).run Tryz.prog W = .ok (.agg #[.int .u16 x.a.p,.int .u16 x.a.c,.int .u8 x.a.l,.bool x.a.h,.int .u16 x.a.n,.int .u16 x.b.p,.int .u16 x.b.c,.int .u8 x.b.l,.bool x.b.h,.int .u16 x.b.n,.int .u16 x.c.p,.int .u16 x.c.c,.int .u8 x.c.l,.bool x.c.h,.int .u16 x.c.n]) W :=
 run_loadAt_mid W b 0 34 _ _ (h.mid 0 15) zb5 rfl zhi
theorem loadS {W:World} {b:Nat} {x:Sd} (h:Bx W b (scs x)):(loadVar 36 ⟨b,0,none⟩).run Tryz.prog W = .ok (.agg #[.int .u16 x.a.p,.int .u16 x.a.c,.int .u8 x.a.l,.bool x.a.h,.int .u16 x.a.n,.int .u16 x.b.p,.int .u16 x.b.c,.int .u8 x.b.l,.bool x.b.h,.int .u16 x.b.n,.int .u16 x.c.p,.int .u16 x.c.c,.int .u8 x.c.l,.bool x.c.h,.int .u16 x.c.n,.int .i64 x.w]) W :=
 run_loadVar_mid W b 0 36 _ _ h.c Tryz.underlying36 rfl zaj
structure SmW (w : World) (x : Sd) (l : List UInt8) (v : Value) (W : World) : Prop where
 low:Below w.heap.size w W
 b:Bx W w.heap.size (scs x)
 r:Bx W (w.heap.size+1) zs
 o:W.ownsRow (w.heap.size+2) 5 1 v l.length (bcs l)
section
variable {w W w1 : World} {x : Sd} {l : List UInt8} {v : Value}
theorem SmW.kept (h:SmW w x l v W) (hb:Below W.heap.size W w1):SmW w x l v w1:=⟨stp h.low hb,h.b.kept hb,h.r.kept hb,zeZ h.o hb⟩
theorem SmW.over (h:SmW w x l v W) (o:Obj):SmW w x l v (W.alloc o):=h.kept (stA (st0 W) o)
theorem SmW.app (h:SmW w x l v W) {l':List UInt8} {v':Value} (hb:Below (w.heap.size+2) W w1) (ho:w1.ownsRow (w.heap.size+2) 5 1 v' l'.length (bcs l')):SmW w x l' v' w1:=⟨h.low.trans (hb.mono (by omega)),h.b.under hb (by omega),h.r.under hb (by omega),ho⟩
theorem SmW.wait (h:SmW w x l v W) (z:Int):SmW w ⟨x.a,x.b,x.c,z⟩ l v (W.setCell ⟨w.heap.size,15,none⟩ (.int .i64 z)):=⟨Bl.set h.low (Nat.le_refl _) _,h.b.set 15 _ (by simp),h.r.far (by omega) _,zic h.o (by omega) _⟩
theorem SmW.v0 (h:SmW w x l v W) (y:Vc):SmW w ⟨y,x.b,x.c,x.w⟩ l v (((((W.setCell ⟨w.heap.size,0,none⟩ (.int .u16 y.p)).setCell ⟨w.heap.size,1,none⟩ (.int .u16 y.c)).setCell ⟨w.heap.size,2,none⟩ (.int .u8 y.l)).setCell ⟨w.heap.size,3,none⟩ (.bool y.h)).setCell ⟨w.heap.size,4,none⟩ (.int .u16 y.n)) :=
 ⟨Bl.puts (o:=0) h.low (Nat.le_refl _) (vcs y),h.b.puts 0 (vcs y) (by simp),h.r.fars (by omega) 0 (vcs y),zce (by omega) (vcs y) 0 h.o⟩
theorem SmW.v1 (h:SmW w x l v W) (y:Vc):SmW w ⟨x.a,y,x.c,x.w⟩ l v (((((W.setCell ⟨w.heap.size,5,none⟩ (.int .u16 y.p)).setCell ⟨w.heap.size,6,none⟩ (.int .u16 y.c)).setCell ⟨w.heap.size,7,none⟩ (.int .u8 y.l)).setCell ⟨w.heap.size,8,none⟩ (.bool y.h)).setCell ⟨w.heap.size,9,none⟩ (.int .u16 y.n)) :=
 ⟨Bl.puts (o:=5) h.low (Nat.le_refl _) (vcs y),h.b.puts 5 (vcs y) (by simp),h.r.fars (by omega) 5 (vcs y),zce (by omega) (vcs y) 5 h.o⟩
theorem SmW.v2 (h:SmW w x l v W) (y:Vc):SmW w ⟨x.a,x.b,y,x.w⟩ l v (((((W.setCell ⟨w.heap.size,10,none⟩ (.int .u16 y.p)).setCell ⟨w.heap.size,11,none⟩ (.int .u16 y.c)).setCell ⟨w.heap.size,12,none⟩ (.int .u8 y.l)).setCell ⟨w.heap.size,13,none⟩ (.bool y.h)).setCell ⟨w.heap.size,14,none⟩ (.int .u16 y.n)) :=
 ⟨Bl.puts (o:=10) h.low (Nat.le_refl _) (vcs y),h.b.puts 10 (vcs y) (by simp),h.r.fars (by omega) 10 (vcs y),zce (by omega) (vcs y) 10 h.o⟩
theorem SmW.w15 (h:SmW w x l v W):W.cell? ⟨w.heap.size,15,none⟩=some (.int .i64 x.w):=h.b.at 15 _ rfl
end
theorem zbk (a:Int) (w:World) (h:0<=a/\a<=65535) :
 Calls Tryz.prog 159 #[.int .u16 a] w λe w'=>e = .returned (.tuple #[.int .u8 (a/256),.int .u8 (a%256)])/\w=w':=by
 go_enter Tryz.func159,Tryz.ntmps159
 go_wp2
 go_ret2
 exact ⟨rfl,rfl⟩
theorem zbS (a b:Int) (w:World) (ha:0<=a/\a<=255) (hb:0<=b/\b<=255) :
 Calls Tryz.prog 181 #[.int .u8 a,.int .u8 b] w λe w'=>e = .returned (.int .u16 (a*256+b))/\w=w':=by
 have e:=M.joined a b ha.1 ha.2 hb.1 hb.2
 go_enter Tryz.func181,Tryz.ntmps181
 go_wp2
 go_ret
 exact ⟨by first|rfl|(simp [e];done)|(rw [e]),rfl⟩
theorem zgP (a b:Int) (w:World) (ha:0<=a/\a<=65535) (hb:0<=b/\b<=255) :
 Calls Tryz.prog 309 #[.int .u16 a,.int .u8 b] w λe w'=>e = .returned (.int .u16 (b*256+a%256))/\w=w':=by
 go_enter Tryz.func309,Tryz.ntmps309
 go_wp2_with (first
  | (go_at_call 159;refine (zbk a _ ha).mono ?_;rintro e w1 ⟨rfl,rfl⟩)
  | (go_at_call 181;refine (zbS b (a%256) _ hb ⟨by omega,by omega⟩).mono ?_;rintro e w1 ⟨rfl,rfl⟩))
 go_ret
 exact ⟨rfl,rfl⟩
theorem zid (a b:Int) (w:World) (ha:0<=a/\a<=65535) (hb:0<=b/\b<=255) :
 Calls Tryz.prog 311 #[.int .u16 a,.int .u8 b] w λe w'=>e = .returned (.int .u16 (a/256*256+b))/\w=w':=by
 go_enter Tryz.func311,Tryz.ntmps311
 go_wp2_with (first
  | (go_at_call 159;refine (zbk a _ ha).mono ?_;rintro e w1 ⟨rfl,rfl⟩)
  | (go_at_call 181;refine (zbS (a/256) b _ ⟨by omega,by omega⟩ hb).mono ?_;rintro e w1 ⟨rfl,rfl⟩))
 go_ret
 exact ⟨rfl,rfl⟩
def Vc.put (v:Vc) (k:Nat) (b:Int):Vc :=
 if k=0 then ⟨b*256+v.p%256,v.c,v.l,v.h,v.n⟩ else if k=1 then ⟨v.p/256*256+b,v.c,v.l,v.h,v.n⟩ else if k=2 then ⟨v.p,v.c,b%16,v.h,v.n⟩
 else if k=3 then ⟨v.p,v.c,v.l,v.h,b*256+v.n%256⟩ else if k=4 then ⟨v.p,v.c,v.l,v.h,v.n/256*256+b⟩ else v
def Sd.put (s:Sd) (k:Nat) (b:Int):Sd:=if k<8 then ⟨s.a.put (k%8) b,s.b,s.c,s.w⟩ else if k<16 then ⟨s.a,s.b.put (k%8) b,s.c,s.w⟩ else ⟨s.a,s.b,s.c.put (k%8) b,s.w⟩
theorem zda (v:Vc) (b:Int) (w:World) :
 Calls Tryz.prog 307 #[(.agg #[.int .u16 v.p,.int .u16 v.c,.int .u8 v.l,.bool v.h,.int .u16 v.n]),.int .u8 b] w λe w'=>e = .returned (.agg #[.int .u16 v.p,.int .u16 v.c,.int .u8 v.l,.bool v.h,.int .u16 v.n])/\Below w.heap.size w w':=by
 go_enter Tryz.func307,Tryz.ntmps307
 go_wp2
 refine bodyPost_ret (v:=.agg _) (by simp [results,Tryz.results307,go_sem]) rfl ⟨rfl,?_⟩
 exact (stA (stA (st0 _) _) _)
theorem zn6 (v:Vc) (b:Int) (w:World) (h:v.ok) (hb:0<=b/\b<=255) :
 Calls Tryz.prog 308 #[(.agg #[.int .u16 v.p,.int .u16 v.c,.int .u8 v.l,.bool v.h,.int .u16 v.n]),.int .u8 b] w λe w'=>e = .returned (.agg #[.int .u16 (v.put 0 b).p,.int .u16 (v.put 0 b).c,.int .u8 (v.put 0 b).l,.bool (v.put 0 b).h,.int .u16 (v.put 0 b).n])/\Below w.heap.size w w':=by
 go_enter Tryz.func308,Tryz.ntmps308
 go_wp2_with (go_at_call 309;refine (zgP v.p b _ h.p hb).mono ?_;rintro e w1 ⟨rfl,rfl⟩)
 refine bodyPost_ret (v:=.agg _) (by simp [results,Tryz.results308,go_sem];exact ⟨rfl,rfl,rfl,rfl,rfl⟩) rfl ⟨rfl,?_⟩
 exact (stA (stA (st0 _) _) _)
theorem zn7 (v:Vc) (b:Int) (w:World) (h:v.ok) (hb:0<=b/\b<=255) :
 Calls Tryz.prog 310 #[(.agg #[.int .u16 v.p,.int .u16 v.c,.int .u8 v.l,.bool v.h,.int .u16 v.n]),.int .u8 b] w λe w'=>e = .returned (.agg #[.int .u16 (v.put 1 b).p,.int .u16 (v.put 1 b).c,.int .u8 (v.put 1 b).l,.bool (v.put 1 b).h,.int .u16 (v.put 1 b).n])/\Below w.heap.size w w':=by
 go_enter Tryz.func310,Tryz.ntmps310
 go_wp2_with (go_at_call 311;refine (zid v.p b _ h.p hb).mono ?_;rintro e w1 ⟨rfl,rfl⟩)
 refine bodyPost_ret (v:=.agg _) (by simp [results,Tryz.results310,go_sem];exact ⟨rfl,rfl,rfl,rfl,rfl⟩) rfl ⟨rfl,?_⟩
 exact (stA (stA (st0 _) _) _)
theorem zn8 (v:Vc) (b:Int) (w:World) (h:v.ok) (hb:0<=b/\b<=255) :
 Calls Tryz.prog 312 #[(.agg #[.int .u16 v.p,.int .u16 v.c,.int .u8 v.l,.bool v.h,.int .u16 v.n]),.int .u8 b] w λe w'=>e = .returned (.agg #[.int .u16 (v.put 2 b).p,.int .u16 (v.put 2 b).c,.int .u8 (v.put 2 b).l,.bool (v.put 2 b).h,.int .u16 (v.put 2 b).n])/\Below w.heap.size w w':=by
 have e:=and15 b hb
 go_enter Tryz.func312,Tryz.ntmps312
 go_wp2
 refine bodyPost_ret (v:=.agg _) (by simp [results,Tryz.results312,go_sem];exact ⟨rfl,rfl,rfl,rfl,rfl⟩) rfl ⟨rfl,?_⟩
 exact (stA (stA (st0 _) _) _)
theorem zn9 (v:Vc) (b:Int) (w:World) (h:v.ok) (hb:0<=b/\b<=255) :
 Calls Tryz.prog 313 #[(.agg #[.int .u16 v.p,.int .u16 v.c,.int .u8 v.l,.bool v.h,.int .u16 v.n]),.int .u8 b] w λe w'=>e = .returned (.agg #[.int .u16 (v.put 3 b).p,.int .u16 (v.put 3 b).c,.int .u8 (v.put 3 b).l,.bool (v.put 3 b).h,.int .u16 (v.put 3 b).n])/\Below w.heap.size w w':=by
 go_enter Tryz.func313,Tryz.ntmps313
 go_wp2_with (go_at_call 309;refine (zgP v.n b _ h.n hb).mono ?_;rintro e w1 ⟨rfl,rfl⟩)
 refine bodyPost_ret (v:=.agg _) (by simp [results,Tryz.results313,go_sem];exact ⟨rfl,rfl,rfl,rfl,rfl⟩) rfl ⟨rfl,?_⟩
 exact (stA (stA (st0 _) _) _)
theorem zoa (v:Vc) (b:Int) (w:World) (h:v.ok) (hb:0<=b/\b<=255) :
 Calls Tryz.prog 314 #[(.agg #[.int .u16 v.p,.int .u16 v.c,.int .u8 v.l,.bool v.h,.int .u16 v.n]),.int .u8 b] w λe w'=>e = .returned (.agg #[.int .u16 (v.put 4 b).p,.int .u16 (v.put 4 b).c,.int .u8 (v.put 4 b).l,.bool (v.put 4 b).h,.int .u16 (v.put 4 b).n])/\Below w.heap.size w w':=by
 go_enter Tryz.func314,Tryz.ntmps314
 go_wp2_with (go_at_call 311;refine (zid v.n b _ h.n hb).mono ?_;rintro e w1 ⟨rfl,rfl⟩)
 refine bodyPost_ret (v:=.agg _) (by simp [results,Tryz.results314,go_sem];exact ⟨rfl,rfl,rfl,rfl,rfl⟩) rfl ⟨rfl,?_⟩
 exact (stA (stA (st0 _) _) _)
theorem zdb (w:World):Calls Tryz.prog 252 #[] w λe w'=>e = .returned (.agg #[.func (.func 308) #[] #[],.func (.func 310) #[] #[],.func (.func 312) #[] #[],.func (.func 313) #[] #[],.func (.func 314) #[] #[],.func (.func 307) #[] #[],.func (.func 307) #[] #[],.func (.func 307) #[] #[]])/\Below w.heap.size w w':=by
 go_enter Tryz.func252,Tryz.ntmps252
 go_wp2
 refine bodyPost_ret (v:=.agg _) (by simp [results,Tryz.results252,go_sem]) rfl ⟨rfl,?_⟩
 exact (stA (st0 _) _)
/-! ### plain numbers -/
def bmL (l a n:Int):Int:=(l*64+a+n)%640/64
def bmA (l a n:Int):Int:=(l*64+a+n)%64
def bmG (l a:Int) (g:Bool) (n:Int):Bool:=g || decide ((l*64+a+128)/640<(l*64+a+n+128)/640)
def bmF (l a f n:Int):Int:=f+(l*64+a+n)/640
structure BOk (l a f : Int) : Prop where
 l0:0<=l
 l1:l<=9
 a0:0<=a
 a1:a<=63
 f0:0<=f
 f1:f<=20000
def bok (l a f:Int):Bool:=decide (0<=l/\l<=9/\0<=a/\a<=63/\0<=f/\f<=20000)
theorem zax (l a f:Int):bok l a f=true ↔ BOk l a f:=by
 unfold bok
 rw [decide_eq_true_eq]
 exact ⟨λ⟨h1,h2,h3,h4,h5,h6⟩=>⟨h1,h2,h3,h4,h5,h6⟩,λ⟨h1,h2,h3,h4,h5,h6⟩=>⟨h1,h2,h3,h4,h5,h6⟩⟩
theorem zie (l a f:Int) (g:Bool) (hl:0<=l/\l<=9) (ha:0<=a/\a<=63):bmL l a 0=l/\bmA l a 0=a/\bmG l a g 0=g/\bmF l a f 0=f:=by
 unfold bmL bmA bmG bmF
 refine ⟨by omega,by omega,?_,by omega⟩
 rw [Int.add_zero,decide_eq_false (Int.lt_irrefl _),Bool.or_false]
theorem bm_bd (l a n:Int) (hl:0<=l/\l<=9) (ha:0<=a/\a<=63) (hn:0<=n):(0<=bmL l a n/\bmL l a n<=9)/\(0<=bmA l a n/\bmA l a n<=63):=by
 unfold bmL bmA
 omega
theorem zob (l a n:Int) (hl:0<=l/\l<=9) (ha:0<=a/\a<=63) (hn:0<=n):bmL l a n*64+bmA l a n=(l*64+a+n)%640:=by
 unfold bmL bmA
 omega
theorem zoc (g:Bool) (p q r:Prop) [Decidable p] [Decidable q] [Decidable r] (h:(p \/ q) ↔ r):((g || decide p) || decide q)=(g || decide r):=by
 rw [Bool.or_assoc]
 congr 1
 rw [<- Bool.decide_or]
 exact decide_eq_decide.2 h
theorem zmt (l a f n m:Int) (g:Bool) (hl:0<=l/\l<=9) (ha:0<=a/\a<=63) (hn:0<=n) (hm:0<=m) :
 bmL (bmL l a n) (bmA l a n) m=bmL l a (n+m)/\bmA (bmL l a n) (bmA l a n) m=bmA l a (n+m)/\bmG (bmL l a n) (bmA l a n) (bmG l a g n) m=bmG l a g (n+m)/\bmF (bmL l a n) (bmA l a n) (bmF l a f n) m=bmF l a f (n+m):=by
 have hp:=zob l a n hl ha hn
 have hA:bmA l a n=(l*64+a+n)%640%64:=by unfold bmA;omega
 refine ⟨?_,?_,?_,?_⟩
 ·unfold bmL at hp ⊢
  rw [hp];omega
 ·unfold bmA bmL at hp ⊢
  rw [hp];omega
 ·unfold bmG
  rw [hp]
  exact zoc g _ _ _ (by omega)
 ·unfold bmF
  rw [hp];omega
/-! ### the package -/
theorem zcf:(Tryz.prog.info? 38).map (·.size)=some 4:=by kernel_rfl
theorem zcg (W:World) (q:Nat) (l a f:Int) (g:Bool) (h:W.rangeAt q 0 [.int .i64 l,.int .i64 a,.bool g,.int .i64 f]):(loadVar 38 ⟨q,0,none⟩).run Tryz.prog W = .ok (.agg #[.int .i64 l,.int .i64 a,.bool g,.int .i64 f]) W :=
 run_loadVar_mid W q 0 38 _ _ h Tryz.underlying38 rfl zcf
def wthn (n m:Int):Bool:=decide (0<=n) && decide (n<=m)
theorem zbT {n m:Int} (h0:0<=n) (h1:n<=m):wthn n m=true:=by unfold wthn;simp [h0,h1]
theorem ze1 {n m:Int} (h:¬ (0<=n/\n<=m)):wthn n m=false:=by unfold wthn;rw [<- Bool.decide_and];exact decide_eq_false h
theorem zaM (n m:Int) (w:World) :
 Calls Tryz.prog 54 #[.int .i64 n,.int .i64 m] w λe w'=>e = .returned (.bool (wthn n m))/\w=w':=by
 unfold wthn
 by_cases h:0<=n
 ·go_enter Tryz.func54,Tryz.ntmps54
  go_wp2
  go_ret
  exact ⟨ret_b (by simp [h]),rfl⟩
 ·go_enter Tryz.func54,Tryz.ntmps54
  go_wp2
  go_ret
  exact ⟨ret_b (by simp;omega),rfl⟩
theorem zdc (own:Int) (w:World) :
 Calls Tryz.prog 119 #[.int .i64 own] w λe w'=>e = .returned (.func (.func 195) #[] #[.pointer (some ⟨w.heap.size,0,none⟩)])/\w'=w.alloc (.cells #[.int .i64 own] 3):=by
 go_enter Tryz.func119,Tryz.ntmps119
 go_wp2
 go_ret
 exact ⟨rfl,rfl⟩
theorem zbt (own c:Int) (b:Nat) (w:World) (ho:0<=own/\own<=640) (hc:0<=c/\c<=30000) (h:w.cell? ⟨b,0,none⟩=some (.int .i64 own)) (hb:b<w.heap.size) :
 Calls Tryz.prog 195 #[.int .i64 c,.pointer (some ⟨b,0,none⟩)] w λe w'=>e = .returned (.int .i64 ((c+640-own)/640))/\w=w':=by
 have e1:Int.tdiv (c+640-own) 640=(c+640-own)/640:=Int.tdiv_eq_ediv_of_nonneg (by omega)
 go_enter Tryz.func195,Tryz.ntmps195
 go_wp2
 go_ret
 exact ⟨by first|rfl|(congr 2;omega),rfl⟩
theorem za8 (l a f:Int) (g:Bool) (w:World) (h:BOk l a f) :
 Calls Tryz.prog 28 #[.agg #[.int .i64 l,.int .i64 a,.bool g,.int .i64 f]] w λe w'=>e = .returned (.int .i64 0)/\Below w.heap.size w w':=by
 have h1:=zbT h.l0 h.l1
 have h2:=zbT h.a0 h.a1
 have h3:=zbT h.f0 h.f1
 clear h
 go_enter Tryz.func28,Tryz.ntmps28
 go_wp2_with (go_at_call 54;refine (zaM _ _ _).mono ?_;rintro e w0 ⟨rfl,rfl⟩)
 go_ret
 exact ⟨rfl,stA (st0 _) _⟩
theorem zb6 (l a f:Int) (g:Bool) (w:World) (h:¬ BOk l a f) :
 Calls Tryz.prog 28 #[.agg #[.int .i64 l,.int .i64 a,.bool g,.int .i64 f]] w λe w'=>e = .returned (.int .i64 3)/\Below w.heap.size w w':=by
 by_cases hl:0<=l/\l<=9
 ·have h1:=zbT hl.1 hl.2
  by_cases ha:0<=a/\a<=63
  ·have h2:=zbT ha.1 ha.2
   have h3:=ze1 (n:=f) (m:=20000) λhf=>h ⟨hl.1,hl.2,ha.1,ha.2,hf.1,hf.2⟩
   clear h hl ha
   go_enter Tryz.func28,Tryz.ntmps28
   go_wp2_with (go_at_call 54;refine (zaM _ _ _).mono ?_;rintro e w0 ⟨rfl,rfl⟩)
   go_ret
   exact ⟨rfl,stA (st0 _) _⟩
  ·have h2:=ze1 ha
   clear h hl ha
   go_enter Tryz.func28,Tryz.ntmps28
   go_wp2_with (go_at_call 54;refine (zaM _ _ _).mono ?_;rintro e w0 ⟨rfl,rfl⟩)
   go_ret
   exact ⟨rfl,stA (st0 _) _⟩
 ·have h1:=ze1 hl
  clear h hl
  go_enter Tryz.func28,Tryz.ntmps28
  go_wp2_with (go_at_call 54;refine (zaM _ _ _).mono ?_;rintro e w0 ⟨rfl,rfl⟩)
  go_ret
  exact ⟨rfl,stA (st0 _) _⟩
theorem zgf (l a f:Int) (g:Bool) (w:World) (h:BOk l a f) :
 Calls Tryz.prog 186 #[.agg #[.int .i64 l,.int .i64 a,.bool g,.int .i64 f]] w λe w'=>e = .returned (.tuple #[.int .i64 ((64-a)%64),.int .i64 0])/\Below w.heap.size w w':=by
 have H:=hid h
 have a0:=h.a0
 have a1:=h.a1
 have e1:Int.tmod (64-a) 64=(64-a)%64:=Int.tmod_eq_emod_of_nonneg (by omega)
 clear h
 go_enter Tryz.func186,Tryz.ntmps186
 go_wp2_with (go_at_call 28;refine (za8 _ _ _ _ _ H.out).mono ?_;rintro e w1 ⟨rfl,hb1⟩;obtain ⟨k1,f1⟩:=bcell hb1;have z1:w.heap.size<w1.heap.size:=Nat.lt_of_lt_of_le (by simp) hb1.size)
 go_ret2
 exact ⟨by rw [show (64-a)%64 = -a%64 by omega];rfl,stp (stA (st0 w) _) hb1⟩
theorem zhj (l a f:Int) (g:Bool) (w:World) (h:¬ BOk l a f) :
 Calls Tryz.prog 186 #[.agg #[.int .i64 l,.int .i64 a,.bool g,.int .i64 f]] w λe w'=>e = .returned (.tuple #[.int .i64 0,.int .i64 3])/\Below w.heap.size w w':=by
 have H:=hid h
 clear h
 go_enter Tryz.func186,Tryz.ntmps186
 go_wp2_with (go_at_call 28;refine (zb6 l a f g _ H.out).mono ?_;rintro e w1 ⟨rfl,hb1⟩;obtain ⟨k1,f1⟩:=bcell hb1;have z1:w.heap.size<w1.heap.size:=Nat.lt_of_lt_of_le (by simp) hb1.size)
 go_ret2
 exact ⟨rfl,stp (stA (st0 w) _) hb1⟩
structure Pd where
 d:Int
 l:Bool
 s:Int
structure Bem where
 l:Int
 a:Int
 g:Bool
 f:Int
structure Mach where
 main:C.Cpu
 aux:C.Cpu
 mrom:List UInt8
 arom:List UInt8
 ram:List UInt8
 own:List UInt8
 video:List UInt8
 p0:Pd
 p1:Pd
 t:TM
 s:Sd
 b:Bem
 fr:Int
 «to»:Int
 granted:Bool
 held:Bool
 m0:Int
 m1:Int
 rung:Bool
 clock:Int
 mready:Int
 aready:Int
structure Wt where
 c:Int
 a:Int
 v:Int
structure Tk where
 n:Int
 l:List Wt
 v:Value
abbrev Tk.zero:Tk:=⟨0,[],.slice none 0 0⟩
abbrev Tk.add (t:Tk) (k:Int):Tk:={ t with n:=t.n+k }
def wcs:List Wt->List Value
 | []=>[]
 | x::l=>.int .i64 x.c :: .int .i64 x.a :: .int .u8 x.v::wcs l
theorem zgg:∀ (l:List Wt) (k:List Wt),wcs (l++k)=wcs l++wcs k
 | [],k=>rfl
 | x::l,k=>by simp only [wcs,List.cons_append,zgg l k]
abbrev Tk.app (t:Tk) (l:List Wt) (v:Value):Tk:=⟨t.n,t.l++l,v⟩
theorem Tk.add_zero (t:Tk):t.add 0=t:=by cases t;simp [Tk.add]
theorem Tk.app_nil (t:Tk):t.app [] t.v=t:=by cases t;simp [Tk.app]
structure Pd.ok (p : Pd) : Prop where
 d:0<=p.d/\p.d<=255
 s:0<=p.s/\p.s<=255
def Pd.rd (p:Pd):Int:=sel p.l p.d p.s/128
def Pd.next (p:Pd):Pd:=⟨p.d,p.l,sel p.l p.s (p.s*2%256+1)⟩
def Pd.wr (p:Pd) (x:Int):Pd:=⟨p.d,odd x,sel (odd x) p.d p.s⟩
def TM.put (t:TM) (n:Int):TM:=⟨t.r,sel (odd n) t.r t.c,odd n,if odd (n/2) then false else t.g⟩
def bget (l:List UInt8) (i:Int):Int:=((l.getD i.toNat 0).toNat:Int)
def bput (l:List UInt8) (i:Int) (x:Int):List UInt8:=l.set i.toNat (UInt8.ofNat x.toNat)
def hiB (w b:Int):Int:=b*256+w%256
def loB (w b:Int):Int:=w/256*256+b
def two (a b:Bool):Int:=(if a then 1 else 0)+(if b then 2 else 0)
def romAt (l:List UInt8) (a:Int):Int:=if a<l.length then bget l a else 255
def Mach.lookM (M:Mach) (a:Int):Int:=if a<32768 then romAt M.mrom a else if a<49152 then bget M.ram ((a-32768)%128) else if a<53248 then bget M.video ((a-49152)%256) else 255
def Mach.lookA (M:Mach) (a:Int):Int:=if a<32768 then romAt M.arom a else if a<49152 then bget M.own ((a-32768)%64) else if a<53248 then (if M.granted then bget M.ram ((a-49152)%128) else 255) else 255
def Mach.portM (M:Mach) (p:Nat):Int × Mach :=
 match p with
 | 0=>(M.p0.rd,{ M with p0:=M.p0.next })
 | 1=>(M.p1.rd,{ M with p1:=M.p1.next })
 | 4=>(two M.t.on M.t.g,M)
 | 6=>(M.b.l,M)
 | 7=>(M.b.a,M)
 | 8=>(two M.b.g false,M)
 | 16=>(two M.granted M.held,M)
 | 17=>(M.m1,M)
 | _=>(255,M)
def Mach.portA (M:Mach) (p:Nat):Int × Mach:=if p=24 then (M.m0,{ M with rung:=false }) else (255,M)
def Mach.xfer (M:Mach):Nat->Mach
 | 0=>M
 | k+1=>{ M.xfer k with video:=bput (M.xfer k).video ((M.to+k)%65536%256) ((M.xfer k).lookM ((M.fr+k)%65536)) }
def beginC (hi lo:Int):C.Cpu:={ C.Cpu.zero with PC:=hi*256+lo }
def Mach.grant (M:Mach) (n:Int):Mach:={ M with granted:=odd n,held:=odd (n/2) }
def Mach.letGo (M:Mach) (n:Int):Mach :=
 if M.held && !(odd (n/2)) then { M.grant n with aux:=beginC ((M.grant n).lookA 0) ((M.grant n).lookA 1),aready:=M.clock } else M.grant n
def Mach.putM (M:Mach) (p:Nat) (n:Int):Mach :=
 match p with
 | 0=>{ M with p0:=M.p0.wr n,p1:=M.p1.wr n }
 | 2=>{ M with t:={ M.t with r:=hiB M.t.r n } }
 | 3=>{ M with t:={ M.t with r:=loB M.t.r n } }
 | 4=>{ M with t:=M.t.put n }
 | 8=>{ M with b:={ M.b with g:=false } }
 | 10=>{ M with fr:=hiB M.fr n }
 | 11=>{ M with fr:=loB M.fr n }
 | 12=>{ M with «to»:=hiB M.to n }
 | 13=>{ M with «to»:=loB M.to n }
 | 14=>M.xfer n.toNat
 | 16=>M.letGo n
 | 17=>{ M with m0:=n,rung:=true }
 | _=>M
def takes (p:Nat) (n:Int):Int:=if p=14 then 2*n else 0
def Mach.putA (M:Mach) (p:Nat) (n:Int):Mach:=if p<24 then { M with s:=M.s.put p n } else if p=24 then { M with m1:=n } else M
def portNo (a:Int):Nat:=(a%32).toNat
def isPort (a:Int):Bool:=decide (53248<=a/\a<=57343)
def Mach.rdM (M:Mach) (a:Int):Int × Mach:=if isPort a then M.portM (portNo a) else (M.lookM a,M)
def Mach.rdA (M:Mach) (a:Int):Int × Mach:=if isPort a then M.portA (portNo a) else (M.lookA a,M)
def Mach.memM (M:Mach) (a n:Int):Mach:=if a<32768 then M else if a<49152 then { M with ram:=bput M.ram ((a-32768)%128) n } else if a<53248 then { M with video:=bput M.video ((a-49152)%256) n } else M
def Mach.memA (M:Mach) (a n:Int):Mach:=if a<32768 then M else if a<49152 then { M with own:=bput M.own ((a-32768)%64) n } else if a<53248 then (if M.granted then { M with ram:=bput M.ram ((a-49152)%128) n } else M) else M
def Mach.wrM (M:Mach) (a n:Int):Mach:=if isPort a then M.putM (portNo a) n else M.memM a n
def Mach.wrA (M:Mach) (a n:Int):Mach:=if isPort a then M.putA (portNo a) n else M.memA a n
def shown (c:Int) (p:Nat) (n:Int):List Wt:=if p<24 then [⟨c,p,n⟩] else []
def Mach.shA (M:Mach) (a n:Int):List Wt:=if isPort a then shown M.clock (portNo a) n else []
def tookM (a n:Int):Int:=if isPort a then takes (portNo a) n else 0
/-! ### machines that may be -/
def bd16 (x:Int):Prop:=0<=x/\x<=65535
def bd8 (x:Int):Prop:=0<=x/\x<=255
structure Mach.ok (M : Mach) : Prop where
 main:M.main.ok
 aux:M.aux.ok
 p0:M.p0.ok
 p1:M.p1.ok
 tr:bd16 M.t.r
 tc:bd16 M.t.c
 s:M.s.ok
 fr:bd16 M.fr
 «to»:bd16 M.to
 m0:bd8 M.m0
 m1:bd8 M.m1
structure BOr (l a f : Int) : Prop where
 l0:0<=l
 l1:l<=9
 a0:0<=a
 a1:a<=63
 f0:0<=f
 f1:f<=20001
structure Mach.fit (M : Mach) : Prop extends M.ok where
 mrom:M.mrom.length<=1024
 arom:M.arom.length<=1024
 ram:M.ram.length=128
 own:M.own.length=64
 video:M.video.length=256
 w:0<=M.s.w/\M.s.w<=15
 b:BOr M.b.l M.b.a M.b.f
 clock:0<=M.clock/\M.clock<=200000
 mready:0<=M.mready/\M.mready<=M.clock+20000
 aready:0<=M.aready/\M.aready<=M.clock+20000
/-! ### cells -/
structure Sl where
 mr:Value
 ar:Value
 ra:Value
 ow:Value
 vi:Value
def cpuL (c:C.Cpu):List Value:=[.int .u16 (c.r 0),.int .u16 (c.r 1),.int .u16 (c.r 2),.int .u16 (c.r 3),.int .u16 (c.r 4),.int .u16 (c.r 5),.int .u16 (c.r 6),.int .u16 (c.r 7),.int .u16 c.PC,.bool c.Z,.bool c.N,.bool c.C,.bool c.V,.bool c.May,.bool c.Waits]
def slL (S:Sl):List Value:=[S.mr,S.ar,S.ra,S.ow,S.vi]
def restL (M:Mach):List Value:=[.int .u8 M.p0.d,.bool M.p0.l,.int .u8 M.p0.s,.int .u8 M.p1.d,.bool M.p1.l,.int .u8 M.p1.s,.int .u16 M.t.r,.int .u16 M.t.c,.bool M.t.on,.bool M.t.g,
 .int .u16 M.s.a.p,.int .u16 M.s.a.c,.int .u8 M.s.a.l,.bool M.s.a.h,.int .u16 M.s.a.n,.int .u16 M.s.b.p,.int .u16 M.s.b.c,.int .u8 M.s.b.l,.bool M.s.b.h,.int .u16 M.s.b.n,.int .u16 M.s.c.p,.int .u16 M.s.c.c,.int .u8 M.s.c.l,.bool M.s.c.h,.int .u16 M.s.c.n,.int .i64 M.s.w,
 .int .i64 M.b.l,.int .i64 M.b.a,.bool M.b.g,.int .i64 M.b.f,.int .u16 M.fr,.int .u16 M.to,.bool M.granted,.bool M.held,.int .u8 M.m0,.int .u8 M.m1,.bool M.rung,.int .i64 M.clock,.int .i64 M.mready,.int .i64 M.aready]
def machL (M:Mach) (S:Sl):List Value:=cpuL M.main++(cpuL M.aux++(slL S++restL M))
theorem zah (M:Mach) (S:Sl):(machL M S).length=75:=rfl
structure Mv (B : Nat) (T T' : Nat -> Prop) (w w' : World) : Prop where
 below:Below B w w'
 block:∀ k,k<w.heap.size->¬ T k->w'.heap[k]? = w.heap[k]?
 fresh:∀ k,T' k->T k \/ w.heap.size<=k
section
variable {B : Nat} {T T' T'' : Nat -> Prop} {a b c w w' : World}
theorem Mv.size (h:Mv B T T' w w'):w.heap.size<=w'.heap.size:=h.below.size
theorem Mv.refl (B:Nat) (T:Nat->Prop) (w:World):Mv B T T w w:=⟨Below.refl _ _,λ_ _ _=>rfl,λ_ h=>Or.inl h⟩
theorem Mv.trans (h:Mv B T T' a b) (k:Mv B T' T'' b c):Mv B T T'' a c :=
 ⟨h.below.trans k.below,λi hi ht=>(k.block i (Nat.lt_of_lt_of_le hi h.size) (λht'=>by rcases h.fresh i ht' with x|x;exact ht x;omega)).trans (h.block i hi ht),
   λi hi=>by
    rcases k.fresh i hi with x|x
    ·exact h.fresh i x
    ·exact Or.inr (Nat.le_trans h.size x)⟩
theorem Mv.of_below (hB:B<=w.heap.size) (h:Below w.heap.size w w'):Mv B T T w w':=⟨h.mono hB,λk hk _=>h.block k hk,λ_ h=>Or.inl h⟩
theorem Mv.alloc (h:Mv B T T' w w') (hB:B<=w.heap.size) (o:Obj):Mv B T T' w (w'.alloc o) :=
 ⟨h.below.alloc (Nat.le_trans hB h.size) o,λk hk ht=>(Below.heap_alloc _ _ _ (Nat.lt_of_lt_of_le hk h.size)).trans (h.block k hk ht),h.fresh⟩
theorem Mv.drew (h:Mv B T T' w w'):Mv B T T' w w'.drew:=⟨h.below.drew,h.block,h.fresh⟩
theorem Mv.drewN (h:Mv B T T' w w') (n:Nat):Mv B T T' w (w'.drewN n):=⟨⟨h.below.os,h.below.tape,h.below.output,h.below.size,h.below.block⟩,h.block,h.fresh⟩
theorem Mv.setCell (h:Mv B T T' w w') {p:Addr} (hB:B<=p.block) (hp:T p.block \/ w.heap.size<=p.block) (u:Value):Mv B T T' w (w'.setCell p u) :=
 ⟨h.below.setCell hB u,λk hk ht=>(Below.heap_setCell _ _ _ _ (λe=>by subst e;rcases hp with x|x;exact ht x;omega)).trans (h.block k hk ht),h.fresh⟩
theorem Mv.cell (h:Mv B T T' w w') {k:Nat} (hk:k<w.heap.size) (ht:¬ T k) (o:Nat):w'.cell? ⟨k,o,none⟩=w.cell? ⟨k,o,none⟩:=World.cell?_of_block (w:=w) (h.block k hk ht)
theorem Mv.froz (h:Mv B T T' w w') {k:Nat} (hk:k<w.heap.size) (ht:¬ T k) (o:Nat):w'.frozen? ⟨k,o,none⟩=w.frozen? ⟨k,o,none⟩:=World.frozen?_of_block (w:=w) (h.block k hk ht)
theorem Mv.also (h:Mv B T T' w w') (p:Nat):Mv B (λk=>k=p \/ T k) (λk=>k=p \/ T' k) w w' :=
 ⟨h.below,λk hk ht=>h.block k hk (λx=>ht (Or.inr x)),λk hk=>by
   rcases hk with x|x
   ·exact Or.inl (Or.inl x)
   ·rcases h.fresh k x with y|y
    ·exact Or.inl (Or.inr y)
    ·exact Or.inr y⟩
end
end Go.Proofs.YtbennamieealbaaGreatDoor
