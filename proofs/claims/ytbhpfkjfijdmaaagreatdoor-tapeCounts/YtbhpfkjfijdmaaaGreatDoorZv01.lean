/-
  Parts of a proof, joined.
-/
import Derived.Test.YtbhpfkjfijdmaaaGreatDoorZv00
import Derived.Laws.BytesArg
import Derived.Lib.Builder
import Derived.Laws.AppendOwnNone
import Derived.Deep.AppendLies
import Derived.Shelf.Spec.SlicesGrow
import Derived.Lib.ConvBytes
import Derived.Lib.SmallJoins
import Derived.Lib.UnsafeStr
namespace Go.Proofs.YtbhpfkjfijdmaaaGreatDoor
open Go.ChangeShapes Go.WideShapes Go.ChangeAt Go.RowKit
set_option linter.unusedVariables false
set_option maxRecDepth 100000
set_option maxHeartbeats 3200000
def mk (l:List UInt8):ByteArray:=⟨l.toArray⟩
theorem mk_toList (l:List UInt8):(mk l).toList=l:=by rw [ByteArray.toList_eq];rfl
def bcs (l:List UInt8):List Value:=l.map (fun c=>Value.int .u8 c.toNat)
def bytesAt (w:World) (g o:Nat) (l:List UInt8):Prop:=∀ (j:Nat) (c:UInt8),l[j]? = some c->w.cell? ⟨g,o+j,none⟩=some (.int .u8 c.toNat)
theorem bytesAt.kept {w w':World} {g o B:Nat} {l:List UInt8} (h:bytesAt w g o l) (hb:Below B w w') (hB:g < B):bytesAt w' g o l:=fun j c hj=>(hb.cell hB).trans (h j c hj)
def sliceAt (w:World) (v:Value) (l:List UInt8):Prop:=(∃ a cap,v = .slice a 0 cap/\l=[]) \/ ∃ g o cap,v = .slice (some ⟨g,o,none⟩) l.length cap/\l.length<=cap/\g < w.heap.size/\bytesAt w g o l
theorem sliceAt.kept {w w':World} {v:Value} {l:List UInt8} (h:sliceAt w v l) (hb:Below w.heap.size w w'):sliceAt w' v l:=by
 rcases h with h | ⟨g,o,cap,h1,h2,h3,h4⟩
 ·exact Or.inl h
 ·exact Or.inr ⟨g,o,cap,h1,h2,Nat.lt_of_lt_of_le h3 hb.size,h4.kept hb h3⟩
theorem slice_len {w:World} {v:Value} {l:List UInt8} (h:sliceAt w v l):∃ a c,v = .slice a l.length c:=by
 rcases h with ⟨a,c,h1,rfl⟩ | ⟨g,o,c,h1,_⟩
 ·exact ⟨a,c,h1⟩
 ·exact ⟨_,c,h1⟩
theorem slice_of_own {w:World} {B:Nat} {v:Value} {l:List UInt8} (h:w.ownsRow B 5 1 v l.length (bcs l)):sliceAt w v l:=by
 rcases h.2 with ⟨rfl,h0⟩ | ⟨g,cap,cur,rfl,hb,hg,hn,hm,hs,ht⟩
 ·exact Or.inl ⟨none,0,rfl,List.length_eq_zero_iff.1 h0⟩
 ·refine Or.inr ⟨g,0,cap,rfl,hn,(Array.getElem?_eq_some_iff.1 hg).1,fun j c hj=>?_⟩
  have hjl:=(List.getElem?_eq_some_iff.1 hj).1
  rw [Nat.zero_add,Lib.cell_of_heap hg j]
  have e:cur[j]? = (cur.toList.take (l.length * 1))[j]?:=by rw [List.getElem?_take,if_pos (by omega)];simp
  rw [e,ht,bcs,List.getElem?_map,hj]
  rfl
theorem own_of_block {w w':World} {B:Nat} {v:Value} {n:Nat} {xs:List Value} (h:w.ownsRow B 5 1 v n xs) (e:∀ k,v.ownBlock=some k->w'.heap[k]? = w.heap[k]?):w'.ownsRow B 5 1 v n xs:=by
 refine ⟨h.1,?_⟩
 rcases h.2 with h2 | ⟨g,cap,cur,rfl,hb,hg,r⟩
 ·exact Or.inl h2
 ·exact Or.inr ⟨g,cap,cur,rfl,hb,(e g rfl).trans hg,r⟩
theorem getD_nums (l:List UInt8) (i:Nat) (hi:i < l.length):∃ c,l[i]? = some c/\(l.map (fun c=>(c.toNat:Int))).getD i 0=(c.toNat:Int):=by
 refine ⟨l[i],List.getElem?_eq_getElem hi,?_⟩
 simp [List.getD,List.getElem?_eq_getElem hi]
theorem addr_add (g o j:Nat):(⟨g,o,none⟩:Addr).add j=⟨g,o+j,none⟩:=by unfold Addr.add;split <;> simp_all
theorem mk_nums (l:List UInt8):strOfNums (l.map (fun c=>(c.toNat:Int)))=mk l:=by
 unfold strOfNums mk
 rw [List.map_map]
 congr 2
 have:((fun n:Int=>UInt8.ofNat n.toNat) ∘ fun c:UInt8=>(c.toNat:Int))=id:=by funext c;simp
 rw [this,List.map_id]
theorem conv_any {w:World} {v:Value} {l:List UInt8} (h:sliceAt w v l):(convert 26 9 v).run Tryz.prog w = .ok (.string (mk l)) w:=by
 rcases h with ⟨a,cap,rfl,rfl⟩ | ⟨g,o,cap,rfl,h2,h3,h4⟩
 ·cases a with
  | none=>exact run_convert_bytes_nil w 26 5 Tryz.underlying26 Tryz.underlying5 0 cap 9 Tryz.underlying9
  | some a =>
   have hl:(loadCells a 0).run Tryz.prog w = .ok (([]:List Int).map (Value.int .u8)).toArray w:=run_loadCells_list (P:=Tryz.prog) w a [] (fun j v hj=>by simp at hj)
   rw [run_convert_bytes_string w 26 9 5 _ 0 cap Tryz.underlying26 Tryz.underlying5 Tryz.underlying9,run_bytesToString w a 0 cap [] hl]
   rfl
 ·have:=run_convert_bytes_arg (P:=Tryz.prog) w 26 5 Tryz.underlying26 Tryz.underlying5 g o l.length cap (l.map (fun c=>(c.toNat:Int))) (by simp) (fun i hi=>by
   obtain ⟨c,hc,hg⟩:=getD_nums l i hi
   rw [hg];exact h4 i c hc) 9 Tryz.underlying9
  rw [mk_nums] at this
  exact this
theorem info_parts {i:Option TypeInfo} {z:Value} {s y:Nat} (h:i.map (fun i=>(i.zero,i.size,i.bytes))=some (some z,s,y)):∃ i0,i=some i0/\i0.zero=some z/\i0.size=s/\i0.bytes=y:=by
 cases i with
 | none=>cases h
 | some i0 =>
  simp only [Option.map_some,Option.some.injEq,Prod.mk.injEq] at h
  exact ⟨i0,rfl,h.1,h.2.1,h.2.2⟩
theorem info_byte:(Tryz.prog.info? 5).map (fun i=>(i.zero,i.size,i.bytes))=some (some (.int .u8 0),1,1):=by kernel_rfl
theorem bcs_append (a b:List UInt8):bcs a++bcs b=bcs (a++b):=by simp [bcs]
theorem appendNo (B:Nat) (i:TypeInfo) (hi:Tryz.prog.info? 5=some i) (ty:TypeId) (v:Value) (n:Nat) (xs:List Value) {w:World} (hown:w.ownsRow B 5 1 v n xs) (a:Option Addr) (c:Nat) :
 (Builtin.append_ #[26,26] ty #[v,.slice a 0 c]).run Tryz.prog w = .ok v w:=by
 have hu:=run_underlying (P:=Tryz.prog) Tryz.underlying26
 have hf:(Builtin.firstCells i.size 0 (.slice a 0 c)).run Tryz.prog w = .ok #[] w:=by
  cases a with
  | none=>exact run_firstCells_none w i.size 0 0 c
  | some a=>exact run_firstCells_some w i.size 0 a 0 c [] (by simp) (fun j v hj=>by simp at hj)
 rcases hown.2 with ⟨rfl,rfl⟩ | ⟨g,cap,cur,rfl,_,_,hnc,_⟩
 ·simp [Builtin.append_,hu,sizeOf,typeInfo,hi,Builtin.lenOf,hf]
 ·simp [Builtin.append_,hu,sizeOf,typeInfo,hi,Builtin.lenOf,hf,hnc,storeCells]
theorem wpList_appSlice {ops:Array Oper} {rest:List Oper} {o:Oper} {a:Act} {w:World} {Q:Exit->Act->World->Prop} (hgd:o.guard=none) (s x:Operand) (ho:o.op = .call { callee:=.builtin .append,args:=#[s,x],argTypes:=#[26,26] })
 (B:Nat) (v:Value) (xs:List UInt8) (hs:a.eval s=v) (hown:w.ownsRow B 5 1 v xs.length (bcs xs)) (xv:Value) (hx:a.eval x=xv) (l:List UInt8) (hl:sliceAt w xv l) (hb:xs.length+l.length<=100000) (hB:B<=w.heap.size)
 (h:∀ v' w',w'.ownsRow B 5 1 v' (xs++l).length (bcs (xs++l))->Below B w w'->wpList Tryz.prog ops Q rest (a.put o.dst v') w'):wpList Tryz.prog ops Q (o :: rest) a w:=by
 obtain ⟨i0,hi0,hz0,hz1,hz2⟩:=info_parts info_byte
 by_cases hl0:l=[]
 ·subst hl0
  have hxv:∃ ad c,xv = .slice ad 0 c:=by
   rcases hl with ⟨ad,c,h1,_⟩ | ⟨g,o',c,h1,_⟩
   ·exact ⟨ad,c,h1⟩
   ·exact ⟨_,c,h1⟩
  obtain ⟨ad,c,rfl⟩:=hxv
  refine wpList_plain hgd fun K hK=>?_
  have hrun:=appendNo B i0 hi0 o.type v xs.length (bcs xs) hown ad c
  unfold Oper.wp
  simp [execOp,ho,resolve,invoke,builtin,hs,hx,hrun,Result.andThen]
  exact hK _ _ (h v w (by simpa using hown) (Below.refl _ _))
 ·rcases hl with ⟨ad,c,_,h2⟩ | ⟨g,o',c,h1,h2,h3,h4⟩
  ·exact absurd h2 hl0
  ·have hlen:0 < l.length:=by cases l with | nil=>exact absurd rfl hl0 | cons _ _=>simp
   refine wpList_append_lies _ hgd s x _ ho B 5 i0 _ 1 1 Tryz.underlying26 hi0 hz0 hz1 hz2 rfl (by omega) v xs.length (bcs xs) hs hown ⟨g,o',none⟩ l.length c (bcs l) (hx.trans h1) (by simp [bcs]) (fun j u hj=>?_) (fun u hu=>?_) hlen (by unfold maxLen;omega) (by omega) hB w.heap.size rfl ?_
   ·simp only [bcs,List.getElem?_map,Option.map_eq_some_iff] at hj
    obtain ⟨cc,hc1,hc2⟩:=hj
    rw [<- hc2,show (⟨g,o',none⟩:Addr).add j=⟨g,o'+j,none⟩ by unfold Addr.add;split <;> simp_all]
    exact h4 j cc hc1
   ·simp only [bcs,List.mem_map] at hu
    obtain ⟨cc,_,rfl⟩:=hu
    rfl
   ·intro g' cap w' hown' hgrow _ _
    refine h _ w' ?_ ((Below.refl B w).grown hgrow hB (fun k hk=>(hown.lt k hk).1))
    rw [List.length_append,<- bcs_append];exact hown'
def Tp.lts:List UInt8:=[117,100,108,114,97,98,115,116]
def Tp.lt (i:Nat):UInt8:=Tp.lts.getD i 0
def Tp.bt (d i:Nat):UInt8:=if d / 2 ^ (7 - i) % 2=0 then 46 else Tp.lt i
def Tp.btn (d:Nat):List UInt8:=[Tp.bt d 0,Tp.bt d 1,Tp.bt d 2,Tp.bt d 3,Tp.bt d 4,Tp.bt d 5,Tp.bt d 6,Tp.bt d 7]
def Tp.ofb (l:List UInt8):Option Nat:=(List.range 256).find? (fun d=>Tp.btn d == l)
theorem Tp.btn_len (d:Nat):(Tp.btn d).length=8:=rfl
theorem Tp.btn_at (d i:Nat) (h:i < 8):(Tp.btn d)[i]? = some (Tp.bt d i):=by
 match i,h with
 | 0,_=>rfl
 | 1,_=>rfl
 | 2,_=>rfl
 | 3,_=>rfl
 | 4,_=>rfl
 | 5,_=>rfl
 | 6,_=>rfl
 | 7,_=>rfl
def Tp.un (l:List UInt8):Nat:=l.foldl (fun a c=>2 * a+(if c=46 then 0 else 1)) 0
theorem Tp.un_btn:∀ d:Fin 256,Tp.un (Tp.btn d.1)=d.1:=by decide +kernel
theorem Tp.btn_inj {d e:Nat} (hd:d < 256) (he:e < 256) (h:Tp.btn d=Tp.btn e):d=e:=by
 have h1:=Tp.un_btn ⟨d,hd⟩
 have h2:=Tp.un_btn ⟨e,he⟩
 simp only at h1 h2
 rw [<- h1,<- h2,h]
theorem Tp.ofb_btn {d:Nat} (h:d < 256):Tp.ofb (Tp.btn d)=some d:=by
 unfold Tp.ofb
 cases hf:(List.range 256).find? (fun e=>Tp.btn e == Tp.btn d) with
 | none =>
  have:=List.find?_eq_none.1 hf d (List.mem_range.2 h)
  simp at this
 | some e =>
  have h1:=List.find?_some hf
  have h2:=List.mem_range.1 (List.mem_of_find?_eq_some hf)
  have h3:e=d:=Tp.btn_inj h2 h (by simpa using h1)
  rw [h3]
theorem Tp.ofb_some {l:List UInt8} {d:Nat} (h:Tp.ofb l=some d):d < 256/\Tp.btn d=l :=
 ⟨List.mem_range.1 (List.mem_of_find?_eq_some h),by simpa using List.find?_some h⟩
theorem Tp.ofb_no {l:List UInt8} (h:∀ d,d < 256->Tp.btn d ≠ l):Tp.ofb l=none :=
 List.find?_eq_none.2 fun d hd=>by simpa using h d (List.mem_range.1 hd)
theorem Tp.or_more:∀ i:Fin 8,∀ d:Fin 256,d.1 % 2 ^ (8 - i.1)=0->bits .or .u8 (d.1:Int) ((128 / 2 ^ i.1:Nat):Int)=((d.1+128 / 2 ^ i.1:Nat):Int)/\d.1+128 / 2 ^ i.1 < 256/\(d.1+128 / 2 ^ i.1) % 2 ^ (7 - i.1)=0/\Tp.bt (d.1+128 / 2 ^ i.1) i.1=Tp.lt i.1/\Tp.bt d.1 i.1=46/\d.1 % 2 ^ (7 - i.1)=0 /\ ∀ j:Fin 8,j.1 < i.1->Tp.bt (d.1+128 / 2 ^ i.1) j.1=Tp.bt d.1 j.1:=by decide +kernel
theorem Tp.and_bit:∀ i:Fin 8,∀ d:Fin 256,(bits .and .u8 (d.1:Int) ((128 / 2 ^ i.1:Nat):Int) == 0)=(Tp.bt d.1 i.1 == 46)/\((bits .and .u8 (d.1:Int) ((128 / 2 ^ i.1:Nat):Int) == 0)=false->Tp.bt d.1 i.1=Tp.lt i.1):=by decide +kernel
theorem Tp.bt_two (d i:Nat):Tp.bt d i=46 \/ Tp.bt d i=Tp.lt i:=by unfold Tp.bt;split <;> simp
structure Tp.Row (W : World) (b : Nat) (L : List Value) : Prop where
 z:b < W.heap.size
 c:W.rangeAt b 0 L
 f:∀ o,o < L.length->W.frozen? ⟨b,o,none⟩=false
theorem Tp.Row.at {W:World} {b:Nat} {L:List Value} (h:Tp.Row W b L) (i:Nat) (v:Value) (e:L[i]? = some v):W.cell? ⟨b,i,none⟩=some v:=by have:=h.c i v e;rwa [Nat.zero_add] at this
theorem Tp.Row.set {W:World} {b:Nat} {L:List Value} (h:Tp.Row W b L) (i:Nat) (v:Value) (hi:i < L.length):Tp.Row (W.setCell ⟨b,i,none⟩ v) b (L.set i v):=by
 refine ⟨by simpa using h.z,fun j x hj=>?_,fun o ho=>by simpa using h.f o (by simpa using ho)⟩
 rw [Nat.zero_add]
 by_cases e:i=j
 ·subst e
  rw [List.getElem?_set_self hi] at hj
  have hs:(W.cell? ⟨b,i,none⟩).isSome:=by rw [h.at i _ (List.getElem?_eq_getElem hi)];rfl
  rw [<- hj]
  exact World.cell?_setCell_same' _ _ _ hs
 ·rw [List.getElem?_set_ne e] at hj
  exact (World.cell?_setCell_other _ _ _ _ (by intro x;exact e (congrArg Addr.off x))).trans (h.at j x hj)
def Tp.pre (d j:Nat):List UInt8:=(Tp.btn d).take j++Tp.lts.drop j
theorem Tp.pre_len (d j:Nat):(Tp.pre d j).length=8:=by
 unfold Tp.pre
 rw [List.length_append,List.length_take,List.length_drop,Tp.btn_len,show Tp.lts.length=8 from rfl]
 omega
theorem Tp.pre_next:∀ j:Fin 8,∀ d:Fin 256,Tp.pre d.1 (j.1+1)=(Tp.pre d.1 j.1).set j.1 (Tp.bt d.1 j.1)/\(Tp.pre d.1 j.1)[j.1]? = some (Tp.lt j.1):=by decide +kernel
theorem Tp.pre_8 (d:Nat):Tp.pre d 8=Tp.btn d:=by
 unfold Tp.pre
 rw [List.take_of_length_le (by rw [Tp.btn_len];exact Nat.le_refl _),show Tp.lts.drop 8=[] from rfl,List.append_nil]
theorem Tp.eight {i:Nat} (h:i < 8):i=0 \/ i=1 \/ i=2 \/ i=3 \/ i=4 \/ i=5 \/ i=6 \/ i=7:=by omega
theorem Tp.bit_any (i:Nat) (h:i < 8) (w:World):Calls Tryz.prog 147 #[.int .i64 i] w fun e w'=>e = .returned (.int .u8 ((128 / 2 ^ i:Nat):Int))/\w=w':=by
 rcases Tp.eight h with rfl | rfl | rfl | rfl | rfl | rfl | rfl | rfl
 all_goals
  go_enter Tryz.func147,Tryz.ntmps147
  go_wp2
  go_ret
  exact ⟨rfl,rfl⟩
def Tp.W0 (w:World):World:=(w.alloc (.cells (bcs Tp.lts).toArray 5)).freeze ⟨w.heap.size,8,none⟩ 1
theorem Tp.conv_mark (w:World):(convert 26 26 (.slice (some ⟨w.heap.size,0,none⟩) 8 8)).run Tryz.prog (w.alloc (.cells (bcs Tp.lts).toArray 5)) = .ok (.slice (some ⟨w.heap.size,0,none⟩) 8 8) (Tp.W0 w):=by
 have hsh:(w.alloc (.cells (bcs Tp.lts).toArray 5)).shape? w.heap.size=some (5,8):=by
  simp [World.shape?,World.alloc,-World.alloc_eq]
  exact rfl
 simp [convert,run_underlying Tryz.underlying26,run_underlying Tryz.underlying5,markStringish,hsh,Result.andThen]
 rfl
theorem Tp.w0_new (w:World):(Tp.W0 w).heap[w.heap.size]? = some (.cells (bcs Tp.lts).toArray 5 (8,9)):=by
 simp [Tp.W0,World.freeze,World.alloc,-World.alloc_eq]
 rw [Array.getElem_modify_self]
 simp
theorem Tp.w0_below (w:World):Below w.heap.size w (Tp.W0 w) :=
 Lib.below_freeze (stA (st0 w) _) (p:=⟨w.heap.size,_,none⟩) (Nat.le_refl _) 1
theorem Tp.w0_row (w:World):Tp.Row (Tp.W0 w) w.heap.size (bcs Tp.lts):=by
 refine ⟨?_,fun j v hj=>?_,fun o ho=>?_⟩
 ·have:=(Array.getElem?_eq_some_iff.1 (Tp.w0_new w)).1
  exact this
 ·rw [Nat.zero_add]
  simp only [World.cell?,Tp.w0_new w]
  simpa using hj
 ·have hl:o < 8:=ho
  simp only [World.frozen?,Tp.w0_new w]
  simp
  omega
theorem Tp.set_same {l:List UInt8} {i:Nat} {x:UInt8} (h:l[i]? = some x):l.set i x=l:=by
 obtain ⟨hi,e⟩:=List.getElem?_eq_some_iff.1 h
 rw [<- e]
 exact List.set_getElem_self hi
theorem Tp.buttons_any (d:Nat) (hd:d < 256) (w:World):Calls Tryz.prog 103 #[.int .u8 d] w fun e w'=>e = .returned (.string (mk (Tp.btn d)))/\Below w.heap.size w w':=by
 have cv:=Tp.conv_mark w
 have HR:Hid (Tp.Row (Tp.W0 w) w.heap.size (bcs (Tp.pre d 0))):=hid (Tp.w0_row w)
 have HB:=hid (Tp.w0_below w)
 generalize Tp.W0 w=w0 at *
 change (convert _ _ _).run _ (w.alloc (.cells #[.int .u8 117,.int .u8 100,.int .u8 108,.int .u8 114,.int .u8 97,.int .u8 98,.int .u8 115,.int .u8 116] _))=_ at cv
 go_enter Tryz.func103,Tryz.ntmps103
 go_wp2
 go_loopw [7] (fun i wr=>∃ j:Nat,j<=8/\i = .int .i64 j/\Tp.Row wr w.heap.size (bcs (Tp.pre d j))/\Below w.heap.size w wr) (fun i _=>8 - (intOf i).toNat)
 case atStart=>exact ⟨0,by omega,rfl,HR.out,HB.out⟩
 case round =>
  obtain ⟨j,hj,rfl,hx,hb⟩:=hrel
  have HX:=hid hx
  have HB2:=hid hb
  by_cases hlt:j < 8
  ·have hji:(j:Int) < 8:=by omega
   have hj0:(0:Int)<=j:=by omega
   have hz:=hx.z
   have hz2:=hb.size
   obtain ⟨an,an2⟩:=Tp.and_bit ⟨j,hlt⟩ ⟨d,hd⟩
   simp only at an an2
   have hfr:=hx.f j (by unfold bcs;rw [List.length_map,Tp.pre_len];exact hlt)
   have hcl:=hx.at j (.int .u8 (Tp.lt j).toNat) (by unfold bcs;rw [List.getElem?_map,(Tp.pre_next ⟨j,hlt⟩ ⟨d,hd⟩).2];rfl)
   have HE:=hid (Tp.pre_next ⟨j,hlt⟩ ⟨d,hd⟩).1
   by_cases hbt:Tp.bt d j=46
   ·have hbt2:(bits .and .u8 (d:Int) ((128 / 2 ^ j:Nat):Int) == 0)=true:=by rw [an,hbt];rfl
    generalize hk:((128 / 2 ^ j:Nat):Int)=k at *
    clear hx hb an an2
    go_wp2_with (go_at_call 147;refine (Tp.bit_any j hlt _).mono ?_;rw [hk];rintro e w1 ⟨rfl,rfl⟩)
    refine ⟨⟨j+1,by omega,by simp,?_,?_⟩,by simp [intOf];omega⟩
    ·have:=HX.out.set j (.int .u8 46) (by unfold bcs;rw [List.length_map,Tp.pre_len];exact hlt)
     rw [HE.out,hbt]
     unfold bcs at this ⊢
     rw [List.map_set]
     exact this
    ·exact Pl.below (Nat.le_refl _) [.int .u8 46] j wr HB2.out
   ·have hbt2:(bits .and .u8 (d:Int) ((128 / 2 ^ j:Nat):Int) == 0)=false:=by rw [an];simpa using hbt
    have hbt3:=an2 hbt2
    generalize hk:((128 / 2 ^ j:Nat):Int)=k at *
    clear hx hb an an2
    go_wp2_with (go_at_call 147;refine (Tp.bit_any j hlt _).mono ?_;rw [hk];rintro e w1 ⟨rfl,rfl⟩)
    refine ⟨⟨j+1,by omega,by simp,?_,HB2.out⟩,by simp [intOf];omega⟩
    rw [HE.out,hbt3,Tp.set_same (Tp.pre_next ⟨j,hlt⟩ ⟨d,hd⟩).2]
    exact HX.out
  ·have hj8:j=8:=by omega
   subst hj8
   have cs:sliceAt wr (.slice (some ⟨w.heap.size,0,none⟩) 8 8) (Tp.btn d):=Or.inr ⟨w.heap.size,0,8,rfl,Nat.le_refl _,hx.z,fun k c hk=>by rw [Nat.zero_add];exact hx.at k _ (by rw [Tp.pre_8];unfold bcs;rw [List.getElem?_map,hk];rfl)⟩
   have cv2:=conv_any cs
   clear hx hb
   go_wp2
   go_ret
   exact ⟨rfl,HB2.out⟩
theorem Tp.ofb_bad {l:List UInt8} {i:Nat} (hi:i < 8) {c:UInt8} (hc:l[i]? = some c) (h1:c ≠ 46) (h2:c ≠ Tp.lt i):Tp.ofb l=none :=
 Tp.ofb_no fun d _ e=>by
  rw [<- e,Tp.btn_at d i hi] at hc
  rcases Tp.bt_two d i with h | h
  ·exact h1 ((Option.some.inj hc).symm.trans h)
  ·exact h2 ((Option.some.inj hc).symm.trans h)
theorem Tp.ofb_len {l:List UInt8} (h:l.length ≠ 8):Tp.ofb l=none:=Tp.ofb_no fun d _ e=>h (by rw [<- e];rfl)
theorem Tp.ofb_all {l:List UInt8} {d:Nat} (hl:l.length=8) (hd:d < 256) (h:∀ j,j < 8->l[j]? = some (Tp.bt d j)):Tp.ofb l=some d:=by
 have:l=Tp.btn d:=List.ext_getElem? fun j=>by
  by_cases hj:j < 8
  ·rw [h j hj,Tp.btn_at d j hj]
  ·rw [List.getElem?_eq_none (by omega),List.getElem?_eq_none (by rw [Tp.btn_len];omega)]
 rw [this,Tp.ofb_btn hd]
def Tp.ofbN (l:List UInt8):Int:=((Tp.ofb l).getD 0:Nat)
def Tp.ofbE (l:List UInt8):Int:=if (Tp.ofb l).isSome then 0 else 1
theorem Tp.mk_at {l:List UInt8} {i:Nat} {c:UInt8} (h:l[i]? = some c):∀ h',(mk l)[i]'h'=c:=by
 intro h'
 have hl:i < l.length:=h'
 rw [List.getElem?_eq_getElem hl] at h
 exact Option.some.inj h
theorem Tp.ne_nat {a b:UInt8} (h:a ≠ b):¬ (a.toNat:Int)=b.toNat:=fun e=>h (UInt8.toNat_inj.1 (by omega))
theorem Tp.ofButtons_any (l:List UInt8) (w:World):Calls Tryz.prog 100 #[.string (mk l)] w fun e w'=>e = .returned (.tuple #[.int .u8 (Tp.ofbN l),.int .i64 (Tp.ofbE l)])/\w=w':=by
 by_cases hl:l.length=8
 ·have hs:(mk l).size=8:=hl
  go_enter Tryz.func100,Tryz.ntmps100
  go_wp2
  go_loopw [9,4] (fun i dn wr=>∃ (j d:Nat),j<=8/\i = .int .i64 j/\dn = .int .u8 d/\d < 256/\d % 2 ^ (8 - j)=0/\(∀ k,k < j->l[k]? = some (Tp.bt d k))/\w=wr) (fun i _ _=>8 - (intOf i).toNat)
  case atStart=>exact ⟨0,0,by omega,rfl,rfl,by omega,by omega,fun k hk=>absurd hk (by omega),rfl⟩
  case round =>
   obtain ⟨j,d,hj,rfl,rfl,hd,hdm,hk,rfl⟩:=hrel
   have HK:=hid hk
   clear hk
   by_cases hlt:j < 8
   ·obtain ⟨c,hc⟩:∃ c,l[j]? = some c:=⟨_,List.getElem?_eq_getElem (by omega)⟩
    have hji:(j:Int) < 8:=by omega
    have hj0:(0:Int)<=j:=by omega
    have hsj:=Tp.mk_at hc
    obtain ⟨o1,o2,o3,o4,o5,o6,o7⟩:=Tp.or_more ⟨j,hlt⟩ ⟨d,hd⟩ hdm
    simp only at o1 o2 o3 o4 o5 o6 o7
    have HC:=hid hc
    have HO:=hid o7
    clear hc o7
    have hdn:d % 2 ^ (8 - (j+1))=0:=by rw [show 8 - (j+1)=7 - j by omega];exact o6
    by_cases h1:c=Tp.lt j
    ·have hdn2:(d+128 / 2 ^ j) % 2 ^ (8 - (j+1))=0:=by rw [show 8 - (j+1)=7 - j by omega];exact o3
     have hnext:Hid (∀ k,k < j+1->l[k]? = some (Tp.bt (d+128 / 2 ^ j) k)):=fun k hk=>by
      by_cases e:k=j
      ·subst e;rw [HC.out,o4,h1]
      ·rw [HO.out ⟨k,by omega⟩ (by simp only;omega)];exact HK.out k (by omega)
     generalize h128:128 / 2 ^ j=q at *
     clear o3 o4 o5 o6 hdm hdn
     subst h1
     rcases Tp.eight hlt with rfl | rfl | rfl | rfl | rfl | rfl | rfl | rfl
     all_goals
      go_wp2_with (go_at_call 147;refine (Tp.bit_any _ hlt _).mono ?_;rw [h128];rintro e w1 ⟨rfl,rfl⟩)
      exact ⟨⟨_,d+q,by omega,by simp,rfl,o2,hdn2,hnext.out,(by first | rfl | trivial)⟩,by simp [intOf]⟩
    ·by_cases h2:c=46
     ·subst h2
      have hnext:Hid (∀ k,k < j+1->l[k]? = some (Tp.bt d k)):=fun k hk=>by
       by_cases e:k=j
       ·subst e;rw [HC.out,o5]
       ·exact HK.out k (by omega)
      clear o1 o2 o3 o4 o5 o6 hdm
      rcases Tp.eight hlt with rfl | rfl | rfl | rfl | rfl | rfl | rfl | rfl
      all_goals
       go_wp2
       exact ⟨⟨_,d,by omega,by simp,rfl,hd,hdn,hnext.out,(by first | rfl | trivial)⟩,by simp [intOf]⟩
     ·have e:=Tp.ofb_bad hlt HC.out h2 h1
      have e1:Tp.ofbN l=0:=by unfold Tp.ofbN;rw [e];rfl
      have e2:Tp.ofbE l=1:=by unfold Tp.ofbE;rw [e];rfl
      have HE:=hid (And.intro e1 e2)
      have h3:=Tp.ne_nat h1
      have h4:¬ (c.toNat:Int)=46:=Tp.ne_nat h2
      clear e e1 e2 o1 o2 o3 o4 o5 o6 hdm hdn h1 h2
      rcases Tp.eight hlt with rfl | rfl | rfl | rfl | rfl | rfl | rfl | rfl
      ·change ¬ (c.toNat:Int)=117 at h3
       have hL:∀ h,(⟨#[117,100,108,114,97,98,115,116]⟩:ByteArray)[0]'h=117:=fun _=>rfl
       go_wp2
       go_ret2
       rw [HE.out.1,HE.out.2]
       exact ⟨rfl,rfl⟩
      ·change ¬ (c.toNat:Int)=100 at h3
       have hL:∀ h,(⟨#[117,100,108,114,97,98,115,116]⟩:ByteArray)[1]'h=100:=fun _=>rfl
       go_wp2
       go_ret2
       rw [HE.out.1,HE.out.2]
       exact ⟨rfl,rfl⟩
      ·change ¬ (c.toNat:Int)=108 at h3
       have hL:∀ h,(⟨#[117,100,108,114,97,98,115,116]⟩:ByteArray)[2]'h=108:=fun _=>rfl
       go_wp2
       go_ret2
       rw [HE.out.1,HE.out.2]
       exact ⟨rfl,rfl⟩
      ·change ¬ (c.toNat:Int)=114 at h3
       have hL:∀ h,(⟨#[117,100,108,114,97,98,115,116]⟩:ByteArray)[3]'h=114:=fun _=>rfl
       go_wp2
       go_ret2
       rw [HE.out.1,HE.out.2]
       exact ⟨rfl,rfl⟩
      ·change ¬ (c.toNat:Int)=97 at h3
       have hL:∀ h,(⟨#[117,100,108,114,97,98,115,116]⟩:ByteArray)[4]'h=97:=fun _=>rfl
       go_wp2
       go_ret2
       rw [HE.out.1,HE.out.2]
       exact ⟨rfl,rfl⟩
      ·change ¬ (c.toNat:Int)=98 at h3
       have hL:∀ h,(⟨#[117,100,108,114,97,98,115,116]⟩:ByteArray)[5]'h=98:=fun _=>rfl
       go_wp2
       go_ret2
       rw [HE.out.1,HE.out.2]
       exact ⟨rfl,rfl⟩
      ·change ¬ (c.toNat:Int)=115 at h3
       have hL:∀ h,(⟨#[117,100,108,114,97,98,115,116]⟩:ByteArray)[6]'h=115:=fun _=>rfl
       go_wp2
       go_ret2
       rw [HE.out.1,HE.out.2]
       exact ⟨rfl,rfl⟩
      ·change ¬ (c.toNat:Int)=116 at h3
       have hL:∀ h,(⟨#[117,100,108,114,97,98,115,116]⟩:ByteArray)[7]'h=116:=fun _=>rfl
       go_wp2
       go_ret2
       rw [HE.out.1,HE.out.2]
       exact ⟨rfl,rfl⟩
   ·have hj8:j=8:=by omega
    subst hj8
    have e:=Tp.ofb_all hl hd HK.out
    have e1:Tp.ofbN l=d:=by unfold Tp.ofbN;rw [e];rfl
    have e2:Tp.ofbE l=0:=by unfold Tp.ofbE;rw [e];rfl
    have HE:=hid (And.intro e1 e2)
    clear e e1 e2
    go_wp2
    go_ret2
    rw [HE.out.1,HE.out.2]
    exact ⟨rfl,rfl⟩
 ·have hs:¬ (mk l).size=8:=hl
  have hs2:((mk l).size:Int) ≠ 8:=by omega
  unfold Tp.ofbN Tp.ofbE
  rw [Tp.ofb_len hl]
  go_enter Tryz.func100,Tryz.ntmps100
  go_wp2
  go_ret2
  exact ⟨rfl,rfl⟩
end Go.Proofs.YtbhpfkjfijdmaaaGreatDoor
