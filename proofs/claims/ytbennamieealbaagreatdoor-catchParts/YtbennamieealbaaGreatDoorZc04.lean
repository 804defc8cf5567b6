/-
  Parts of a proof, joined.
-/
import Derived.WalkKit
import Derived.ProofKit
import Derived.Maps.OwnOps
import Derived.ChangeMaps5
import Derived.Test.YtbennamieealbaaGreatDoorZc03
import Derived.Deep.RegionLaw
import Derived.BigRegion
set_option linter.unusedVariables false
set_option maxRecDepth 100000
set_option maxHeartbeats 1600000
namespace Go.Proofs.YtbennamieealbaaGreatDoor
open Go.ChangeShapes Go.WideShapes Go.ChangeAt Go.RowKit
def mapS (w:World) (b:Nat) (l:List (ByteArray × Int)):Prop :=
 ∃ es clock,w.heap[b]? = some (.map es clock)/\es.toList.map (λe=>(e.key,e.val))=l.map (λp=>(Value.string p.1,Value.int .i64 p.2))
theorem beq_s (a b:ByteArray):(a == b)=decide (a=b):=by
 cases h:(a == b)
 ·rw [eq_comm,decide_eq_false_iff_not];intro e;rw [(MapKept.bytes_beq a b).2 e] at h;cases h
 ·rw [eq_comm,decide_eq_true_eq];exact (MapKept.bytes_beq a b).1 h
theorem zkI (op:ByteArray):∀ (es:List MapEntry) (l:List (ByteArray × Int)),es.map (λe=>(e.key,e.val))=l.map (λp=>(Value.string p.1,Value.int .i64 p.2))->∀ i:Nat,
 ∃ r,Instr.findNow .string (.string op) es i=some r/\r.map (·.2)=(l.find? (λp=>p.1 == op)).map (λp=>Value.int .i64 p.2)
 | [],[],_,i=>⟨none,rfl,rfl⟩
 | [],_::_,h,_=>by cases h
 | _::_,[],h,_=>by cases h
 | e::es,p::l,h,i=>by
  simp only [List.map_cons,List.cons.injEq,Prod.mk.injEq] at h
  obtain ⟨⟨hk,hv⟩,h⟩:=h
  by_cases c:p.1=op
  ·refine ⟨some (i,e.val),?_,?_⟩
   ·simp [Instr.findNow,hk,Instr.sameNow,c,beq_s]
   ·simp [c,hv,beq_s]
  ·obtain ⟨r,h1,h2⟩:=zkI op es l h (i+1)
   refine ⟨r,?_,?_⟩
   ·have c':(op == p.1)=false:=by rw [beq_s,decide_eq_false_iff_not];exact λe=>c e.symm
    simp [Instr.findNow,hk,Instr.sameNow,c',h1]
   ·have c':(p.1 == op)=false:=by rw [beq_s,decide_eq_false_iff_not];exact c
    rw [h2,List.find?_cons,c']
theorem zgW (w:World):mapS (w.alloc (.map #[] 0)) w.heap.size []:=⟨#[],0,(MapKept.heap_alloc w _).1,rfl⟩
theorem mapS.lt {w:World} {b:Nat} {l:List (ByteArray × Int)} (h:mapS w b l):b<w.heap.size:=by
 obtain ⟨es,c,hb,_⟩:=h
 exact (Array.getElem?_eq_some_iff.1 hb).1
theorem mapS.of_block {w w':World} {b:Nat} {l:List (ByteArray × Int)} (h:mapS w b l) (e:w'.heap[b]? = w.heap[b]?):mapS w' b l:=by
 obtain ⟨es,c,hb,hm⟩:=h
 exact ⟨es,c,e.trans hb,hm⟩
theorem mapS.below {w w':World} {b B:Nat} {l:List (ByteArray × Int)} (h:mapS w b l) (hb:Below B w w') (hB:b<B):mapS w' b l:=h.of_block (hb.block b hB)
theorem ziZ {P:Program} {t k e:TypeId} (ht:P.underlying t=some (.map k e)) (hk:P.underlying k=some .string) {w:World} {b:Nat} {l:List (ByteArray × Int)} (h:mapS w b l) (x:ByteArray) (v:Int)
 (hf:l.find? (λp=>p.1 == x)=none):∃ w',(Instr.mapUpdate t (.map (some b)) (.string x) (.int .i64 v)).run P w = .ok () w'/\mapS w' b (l++[(x,v)])/\w.grownBy w' (some b):=by
 obtain ⟨es,c,hb,hm⟩:=h
 obtain ⟨r,h1,h2⟩:=zkI x es.toList l hm 0
 have hr:r=none:=by
  cases r with
  | none=>rfl
  | some q=>simp [hf] at h2
 subst hr
 have hc:(Instr.checkKey false 10000 k (.string x)).run P w = .ok () w:=MapKept.run_checkKey (k:=.string x) hk (by simp [MapKept.IsKey]) false 9999
 refine ⟨{ w with heap:=w.heap.setIfInBounds b (.map (es.push { key:=.string x,val:=.int .i64 v,born:=c }) (c+1)) },?_,?_,?_⟩
 ·simp [Instr.mapUpdate,run_underlying ht,MapKept.run_getObj_map hb,hc,MapKept.run_findKey hk h1,MapKept.run_setObj_map _ hb,Result.andThen]
 ·exact ⟨_,_,(MapKept.heap_set hb).1,by simp [hm]⟩
 ·exact ⟨rfl,rfl,rfl,by simp,λi hi hne=>(MapKept.heap_set hb).2 i (λe=>hne (by rw [e]))⟩
theorem zfy {P:Program} {t k e:TypeId} (ht:P.underlying t=some (.map k e)) (hk:P.underlying k=some .string) {w:World} {b:Nat} {l:List (ByteArray × Int)} (h:mapS w b l) (x:ByteArray)
 (hz:(zeroValue e).run P w = .ok (.int .i64 0) w):(Instr.lookup t (.map (some b)) (.string x) true).run P w =
  .ok (.tuple #[.int .i64 (((l.find? (λp=>p.1 == x)).map (·.2)).getD 0),.bool (l.find? (λp=>p.1 == x)).isSome]) w:=by
 obtain ⟨es,c,hb,hm⟩:=h
 obtain ⟨r,h1,h2⟩:=zkI x es.toList l hm 0
 have hc:∀ em,(Instr.checkKey em 10000 k (.string x)).run P w = .ok () w:=λem=>MapKept.run_checkKey (k:=.string x) hk (by simp [MapKept.IsKey]) em 9999
 cases r with
 | none =>
  have hn:l.find? (λp=>p.1 == x)=none:=by simpa using h2.symm
  rw [hn]
  simp [Instr.lookup,run_underlying ht,MapKept.run_getObj_map hb,hc,MapKept.run_findKey hk h1,hz,Result.andThen]
 | some q =>
  obtain ⟨i,v⟩:=q
  cases hq:l.find? (λp=>p.1 == x) with
  | none=>simp [hq] at h2
  | some y =>
   simp [hq] at h2
   simp [Instr.lookup,run_underlying ht,MapKept.run_getObj_map hb,hc,MapKept.run_findKey hk h1,Result.andThen,h2]
theorem zen {P:Program} (w:World) {ops:Array Oper} {rest:List Oper} {o:Oper} {a:Act} {Q:Exit->Act->World->Prop}
 (hg:o.guard=none) (m x v:Operand) (t:TypeId) (hop:o.op=Op.mapUpdate t m x v) (k e:TypeId) (ht:P.underlying t=some (.map k e)) (hk:P.underlying k=some .string)
 (b:Nat) (l:List (ByteArray × Int)) (hm:a.eval m = .map (some b)) (h:mapS w b l) (key:ByteArray) (val:Int) (hx:a.eval x = .string key) (hv:a.eval v = .int .i64 val) (hf:l.find? (λp=>p.1 == key)=none)
 (hK:∀ w',mapS w' b (l++[(key,val)])->w.grownBy w' (some b)->wpList P ops Q rest (a.put o.dst undef) w'):wpList P ops Q (o::rest) a w:=by
 refine wpList_plain hg λK' hK'=>?_
 obtain ⟨w',hrun,r1,r2⟩:=ziZ ht hk h key val hf
 unfold Oper.wp
 simp [execOp,hop,hm,hx,hv,hrun,Result.andThen]
 exact hK' _ _ (hK w' r1 r2)
/-! ### the orders by their names -/
def opsTo (j:Nat):List (ByteArray × Int):=((List.range j).filter (λk=>k != 30)).map (λk=>(O.nameS k,(k:Int)))
theorem znA:∀ j,j<32->j≠30->(opsTo j).find? (λp=>p.1 == O.nameS j)=none:=by decide +kernel
theorem zjw {j:Nat} (h:j≠30):opsTo (j+1)=opsTo j++[(O.nameS j,(j:Int))]:=by
 unfold opsTo;rw [List.range_succ,List.filter_append];simp [h]
theorem znB:opsTo 31=opsTo 30:=by
 unfold opsTo;rw [show (31:Nat)=30+1 from rfl,List.range_succ,List.filter_append];simp
theorem zkJ {α β:Type} (f:α->β) (p:α->Bool) (q:β->Bool):∀ l:List α,((l.filter p).map f).find? q=(l.find? (λx=>p x && q (f x))).map f
 | []=>rfl
 | a::l=>by
  have ih:=zkJ f p q l
  cases hp:p a
  ·simp [hp,ih]
  ·cases hq:q (f a)
   ·simp [hp,hq,ih]
   ·simp [hp,hq]
theorem mk_eq (l:List UInt8) (c:ByteArray):(Asmk l == c)=(l == bs c):=by
 rw [beq_s]
 by_cases h:l=bs c
 ·subst h;rw [mk_bs];simp
 ·have:¬ Asmk l=c:=λe=>h (by rw [<- e];rfl)
  rw [decide_eq_false this];simp [h]
theorem znC (c:ByteArray):(opsTo 32).find? (λp=>p.1 == c)=(S.opOf (bs c)).map (λk=>(O.nameS k,(k:Int))):=by
 unfold opsTo S.opOf
 rw [zkJ]
 congr 1
 congr 1
 funext k
 by_cases h:k=30
 ·subst h;rfl
 ·have e:O.nameS k=Asmk (K.row k).1:=zpT k h
  rw [e,mk_eq]
/-! ### the reader -/
def pl (l:List (S.By × Nat)):List (ByteArray × Int):=l.map (λp=>(Asmk p.1,(p.2:Int)))
theorem zkK (l:List (S.By × Nat)) (c:ByteArray):(pl l).find? (λp=>p.1 == c)=(l.find? (λp=>p.1 == bs c)).map (λp=>(Asmk p.1,(p.2:Int))):=by
 unfold pl
 rw [List.find?_map]
 congr 2
 funext p
 exact mk_eq p.1 c
def useCells:List (S.By × Nat × Nat)->List Value
 | []=>[]
 | u::us=>[.string (Asmk u.1),.int .i64 u.2.1,.int .i64 u.2.2]++useCells us
theorem zcE:∀ l (u:S.By × Nat × Nat),useCells (l++[u])=useCells l++[.string (Asmk u.1),.int .i64 u.2.1,.int .i64 u.2.2]
 | [],u=>rfl
 | v::us,u=>by simp [useCells,zcE us u]
structure Rd (w : World) (B b mo mp : Nat) (ua : Option Addr) (uc : Nat) (ra : Option Addr) (rc : Nat) (st : S.St) (ln : Nat) : Prop where
 hB:B<=b
 blk:w.heap[b]? = some (.cells #[.map (some mo),.map (some mp),.slice ua st.uses.length uc,.slice ra st.rom.length rc,.int .i64 ln] 178 (0,0))
 ops:mapS w mo (opsTo 32)
 places:mapS w mp (pl st.places)
 hmp:B<=mp
 ne:mo≠mp
 uses:w.ownsRow B 254 3 (.slice ua st.uses.length uc) st.uses.length (useCells st.uses)
 rom:w.ownsRow B 5 1 (.slice ra st.rom.length rc) st.rom.length (Lib.byteCells st.rom)
section
variable {w w' : World} {B b mo mp : Nat} {ua ra : Option Addr} {uc rc : Nat} {st : S.St} {ln : Nat}
theorem Rd.lt (h:Rd w B b mo mp ua uc ra rc st ln):b<w.heap.size:=(Array.getElem?_eq_some_iff.1 h.blk).1
theorem Rd.cell (h:Rd w B b mo mp ua uc ra rc st ln) (i:Nat):w.cell? ⟨b,i,none⟩=(#[.map (some mo),.map (some mp),.slice ua st.uses.length uc,.slice ra st.rom.length rc,.int .i64 ln]:Array Value)[i]?:=Lib.cell_of_heap h.blk i
theorem Rd.frozen (h:Rd w B b mo mp ua uc ra rc st ln) (i:Nat):w.frozen? ⟨b,i,none⟩=false:=Lib.frozen_of_heap h.blk i
theorem Rd.kept (h:Rd w B b mo mp ua uc ra rc st ln) (hb:Below w.heap.size w w'):Rd w' B b mo mp ua uc ra rc st ln :=
 ⟨h.hB,(hb.block b h.lt).trans h.blk,h.ops.below hb h.ops.lt,h.places.below hb h.places.lt,h.hmp,h.ne,h.uses.kept (zaB hb) (za8 _),h.rom.kept (zaB hb) (za8 _)⟩
theorem zbk {w:World} {B:Nat} {e:TypeId} {s:Nat} {v:Value} {n:Nat} {xs:List Value} {x:Nat} {o:Obj} (hown:w.ownsRow B e s v n xs) (hb:w.heap[x]? = some o) (hne:∀ cur,o ≠ .cells cur e (0,0)):v.ownBlock≠some x:=by
 rcases hown.2 with ⟨rfl,_⟩|⟨g,cap,cur,rfl,_,hg,_⟩
 ·simp [Value.ownBlock]
 ·intro h
  simp only [Value.ownBlock,Option.some.injEq] at h
  subst h
  rw [hg] at hb
  exact hne cur (Option.some.inj hb).symm
theorem Rd.rom_b (h:Rd w B b mo mp ua uc ra rc st ln):(Value.slice ra st.rom.length rc).ownBlock≠some b:=zbk h.rom h.blk (λcur e=>by simp at e)
theorem Rd.uses_b (h:Rd w B b mo mp ua uc ra rc st ln):(Value.slice ua st.uses.length uc).ownBlock≠some b:=zbk h.uses h.blk (λcur e=>by simp at e)
theorem Rd.rom_mp (h:Rd w B b mo mp ua uc ra rc st ln):(Value.slice ra st.rom.length rc).ownBlock≠some mp:=by
 obtain ⟨es,c,hb,_⟩:=h.places
 exact zbk h.rom hb (λcur e=>by simp at e)
theorem Rd.uses_mp (h:Rd w B b mo mp ua uc ra rc st ln):(Value.slice ua st.uses.length uc).ownBlock≠some mp:=by
 obtain ⟨es,c,hb,_⟩:=h.places
 exact zbk h.uses hb (λcur e=>by simp at e)
theorem Rd.rom_mo (h:Rd w B b mo mp ua uc ra rc st ln):(Value.slice ra st.rom.length rc).ownBlock≠some mo:=by
 obtain ⟨es,c,hb,_⟩:=h.ops
 exact zbk h.rom hb (λcur e=>by simp at e)
theorem Rd.uses_mo (h:Rd w B b mo mp ua uc ra rc st ln):(Value.slice ua st.uses.length uc).ownBlock≠some mo:=by
 obtain ⟨es,c,hb,_⟩:=h.ops
 exact zbk h.uses hb (λcur e=>by simp at e)
theorem Rd.mp_b (h:Rd w B b mo mp ua uc ra rc st ln):b≠mp:=λe=>by
 obtain ⟨es,c,hb,_⟩:=h.places
 rw [<- e,h.blk] at hb
 simp at hb
theorem Rd.mo_b (h:Rd w B b mo mp ua uc ra rc st ln):b≠mo:=λe=>by
 obtain ⟨es,c,hb,_⟩:=h.ops
 rw [<- e,h.blk] at hb
 simp at hb
theorem Rd.rows (h:Rd w B b mo mp ua uc ra rc st ln):(Value.slice ua st.uses.length uc).ownBlock=none \/ (Value.slice ua st.uses.length uc).ownBlock≠(Value.slice ra st.rom.length rc).ownBlock:=by
 cases hu:(Value.slice ua st.uses.length uc).ownBlock with
 | none=>exact Or.inl rfl
 | some x =>
  refine Or.inr (λe=>?_)
  rcases h.uses.2 with ⟨hv,_⟩|⟨g,cap,cur,hv,_,hg,_⟩
  ·rw [hv] at hu;simp [Value.ownBlock] at hu
  ·rw [hv] at hu
   simp only [Value.ownBlock,Option.some.injEq] at hu
   subst hu
   exact zbk h.rom hg (λcur' e'=>by simp at e') e.symm
theorem zbl {w:World} {b i:Nat} {cs:Array Value} {t:TypeId} {fr:Nat × Nat} (h:w.heap[b]? = some (.cells cs t fr)) (v:Value):(w.setCell ⟨b,i,none⟩ v).heap[b]? = some (.cells (cs.setIfInBounds i v) t fr):=by
 simp [World.setCell,Array.getElem?_modify,h]
theorem zbM (w:World) (b i:Nat) (v:Value):w.grownBy (w.setCell ⟨b,i,none⟩ v) (some b) :=
 ⟨rfl,rfl,rfl,by simp [World.setCell],λk _ hk=>Below.heap_setCell _ _ _ _ (λe=>hk (by rw [e]))⟩
theorem zaA {w w':World} {x:Option Nat} (hg:w.grownBy w' x) {k:Nat} (hk:k<w.heap.size) (hne:some k≠x):w'.heap[k]? = w.heap[k]?:=hg.block k hk hne
theorem Rd.put_rom (h:Rd w B b mo mp ua uc ra rc st ln) {w1:World} (hg:w.grownBy w1 (Value.slice ra st.rom.length rc).ownBlock) {ra':Option Addr} {rc':Nat} {rom':S.By} (hown:w1.ownsRow B 5 1 (.slice ra' rom'.length rc') rom'.length (Lib.byteCells rom')) :
 Rd (w1.setCell ⟨b,3,none⟩ (.slice ra' rom'.length rc')) B b mo mp ua uc ra' rc' { st with rom:=rom' } ln:=by
 have hb1:w1.heap[b]? = _:=(zaA hg h.lt (Ne.symm h.rom_b)).trans h.blk
 have hg2:=zbM w1 b 3 (.slice ra' rom'.length rc')
 have ho1:mapS w1 mo (opsTo 32):=h.ops.of_block (zaA hg h.ops.lt (Ne.symm h.rom_mo))
 have hp1:mapS w1 mp (pl st.places):=h.places.of_block (zaA hg h.places.lt (Ne.symm h.rom_mp))
 have hu1:=h.uses.kept hg h.rows
 refine ⟨h.hB,(zbl hb1 _).trans (by simp),ho1.of_block (zaA hg2 ho1.lt (λe=>h.mo_b (Option.some.inj e).symm)),hp1.of_block (zaA hg2 hp1.lt (λe=>h.mp_b (Option.some.inj e).symm)),h.hmp,h.ne,hu1.kept hg2 (Or.inr h.uses_b),hown.kept hg2 (Or.inr (zbk hown hb1 (λcur e=>by simp at e)))⟩
theorem Rd.put_uses (h:Rd w B b mo mp ua uc ra rc st ln) {w1:World} (hg:w.grownBy w1 (Value.slice ua st.uses.length uc).ownBlock) {ua':Option Addr} {uc':Nat} {us':List (S.By × Nat × Nat)} (hown:w1.ownsRow B 254 3 (.slice ua' us'.length uc') us'.length (useCells us')) :
 Rd (w1.setCell ⟨b,2,none⟩ (.slice ua' us'.length uc')) B b mo mp ua' uc' ra rc { st with uses:=us' } ln:=by
 have hb1:w1.heap[b]? = _:=(zaA hg h.lt (Ne.symm h.uses_b)).trans h.blk
 have hg2:=zbM w1 b 2 (.slice ua' us'.length uc')
 have ho1:mapS w1 mo (opsTo 32):=h.ops.of_block (zaA hg h.ops.lt (Ne.symm h.uses_mo))
 have hp1:mapS w1 mp (pl st.places):=h.places.of_block (zaA hg h.places.lt (Ne.symm h.uses_mp))
 have hr1:=h.rom.kept hg (by rcases h.rows with hh|hh
                             ·rw [hh];exact za8 _
                             ·exact Or.inr (λe=>hh e.symm))
 refine ⟨h.hB,(zbl hb1 _).trans (by simp),ho1.of_block (zaA hg2 ho1.lt (λe=>h.mo_b (Option.some.inj e).symm)),hp1.of_block (zaA hg2 hp1.lt (λe=>h.mp_b (Option.some.inj e).symm)),h.hmp,h.ne,hown.kept hg2 (Or.inr (zbk hown hb1 (λcur e=>by simp at e))),hr1.kept hg2 (Or.inr h.rom_b)⟩
theorem Rd.put_line (h:Rd w B b mo mp ua uc ra rc st ln) (ln':Nat):Rd (w.setCell ⟨b,4,none⟩ (.int .i64 ln')) B b mo mp ua uc ra rc st ln':=by
 have hg2:=zbM w b 4 (.int .i64 ln')
 exact ⟨h.hB,(zbl h.blk _).trans (by simp),h.ops.of_block (zaA hg2 h.ops.lt (λe=>h.mo_b (Option.some.inj e).symm)),h.places.of_block (zaA hg2 h.places.lt (λe=>h.mp_b (Option.some.inj e).symm)),h.hmp,h.ne,h.uses.kept hg2 (Or.inr h.uses_b),h.rom.kept hg2 (Or.inr h.rom_b)⟩
theorem Rd.put_place (h:Rd w B b mo mp ua uc ra rc st ln) {w1:World} (hg:w.grownBy w1 (some mp)) {ps:List (S.By × Nat)} (hm:mapS w1 mp (pl ps)):Rd w1 B b mo mp ua uc ra rc { st with places:=ps } ln :=
 ⟨h.hB,(zaA hg h.lt (λe=>h.mp_b (Option.some.inj e))).trans h.blk,h.ops.of_block (zaA hg h.ops.lt (λe=>h.ne (Option.some.inj e))),hm,h.hmp,h.ne,h.uses.kept hg (Or.inr h.uses_mp),h.rom.kept hg (Or.inr h.rom_mp)⟩
end
theorem zi0 (p:Option Addr) (v:Int) (w:World) :
 Calls Tryz.prog 247 #[.pointer p,.int .i64 v,.bool true] w λe w'=>e = .returned (.int .i64 v)/\w'=w:=by
 go_enter Tryz.func247,Tryz.ntmps247
 go_wp2
 go_ret
 exact ⟨rfl,rfl⟩
theorem zkL {l:S.By} {n:Int} (h:S.num l=some n):Lib.atoiAll l = .ok n/\Lib.itoa n=l:=by
 unfold S.num at h
 split at h
 ·rename_i v hv
  split at h
  ·rename_i hi
   cases h
   exact ⟨hv,hi⟩
  ·cases h
 ·cases h
theorem zpU (s:ByteArray) (n:Int) (hs:s.size<=10000) (h:Lib.atoiAll (bs s) = .ok n) (w:World) :
 Calls Tryz.prog 305 #[.string s] w λe w'=>e = .returned (.tuple #[.int .i64 n,.nilIface])/\Below w.heap.size w w':=by
 refine (Tryz.strconv_Atoi_ok s (by omega) n h w).mono λe w' hh=>⟨hh.1,?_⟩
 rcases hh.2 with rfl|⟨t,rfl⟩
 ·exact st0 _
 ·exact Joins.below_bytesWorld _ _ _ _ (Nat.le_refl _)
theorem zgX (s:ByteArray) (n:Int) (hs:s.size<=10000) (h:S.num (bs s)=some n) (w:World) (hF:AF w) :
 Calls Tryz.prog 248 #[.string s] w λe w'=>e = .returned (.tuple #[.int .i64 n,.bool true])/\Below w.heap.size w w':=by
 obtain ⟨h1,h2⟩:=zkL h
 obtain ⟨b0,b1⟩:=Lib.atoiAll_bounds h1
 have HA:=hid (zpU s n hs h1 w)
 have HI:Hid (∀ w,AF w->Calls Tryz.prog 306 #[.int .i64 n] w λe w'=>e = .returned (.string s)/\Below w.heap.size w w'):=λw hF=>by
  have:=znx n b0 b1 w hF
  rw [h2,mk_bs] at this
  exact this
 have HF:=hid hF
 have hss:(s == s)=true:=by rw [beq_s];simp
 clear h h1 h2 hF
 go_enter Tryz.func248,Tryz.ntmps248
 go_wp2_with (first
  | (go_at_call 305;refine HA.out.mono ?_;rintro e w1 ⟨rfl,hb1⟩)
  | (go_at_call 306;refine (HI.out _ (HF.out.kept hb1)).mono ?_;rintro e w2 ⟨rfl,hb2⟩))
 go_ret2
 exact ⟨rfl,stp hb1 hb2⟩
theorem zdF (p:Option Addr) (s:ByteArray) (h:S.nameOk (bs s)=true) (w:World) :
 Calls Tryz.prog 243 #[.pointer p,.string s] w λe w'=>e = .returned (.tuple #[.int .i64 0,.string s])/\w'=w:=by
 have HN:=hid (zcr s w)
 rw [h] at HN
 clear h
 go_enter Tryz.func243,Tryz.ntmps243
 go_wp2_with (go_at_call 242;refine HN.out.mono ?_;rintro e w' ⟨rfl,rfl⟩)
 go_ret2
 exact ⟨rfl,rfl⟩
theorem zeo (p:Option Addr) (s:ByteArray) (n:Int) (hs:s.size<=10000) (h:S.nameOk (bs s)=false) (h2:S.num (bs s)=some n) (w:World) (hF:AF w) :
 Calls Tryz.prog 243 #[.pointer p,.string s] w λe w'=>e = .returned (.tuple #[.int .i64 n,.string (Asmk [])])/\Below w.heap.size w w':=by
 have HN:=hid (zcr s w)
 rw [h] at HN
 have HM:=hid (zgX s n hs h2 w hF)
 clear h h2 hF
 go_enter Tryz.func243,Tryz.ntmps243
 go_wp2_with (first
  | (go_at_call 242;refine HN.out.mono ?_;rintro e w' ⟨rfl,rfl⟩)
  | (go_at_call 248;refine HM.out.mono ?_;rintro e w1 ⟨rfl,hb1⟩)
  | (go_at_call 247;refine (zi0 p n _).mono ?_;rintro e w' ⟨rfl,rfl⟩))
 go_ret2
 exact ⟨rfl,hb1⟩
theorem zcF (p:Option Addr) (s:ByteArray) (x:Int × S.By) (hs:s.size<=10000) (h:S.wordOrName (bs s)=some x) (w:World) (hF:AF w) :
 Calls Tryz.prog 243 #[.pointer p,.string s] w λe w'=>e = .returned (.tuple #[.int .i64 x.1,.string (Asmk x.2)])/\Below w.heap.size w w':=by
 unfold S.wordOrName at h
 cases hn:S.nameOk (bs s) with
 | true =>
  rw [hn] at h
  cases h
  refine (zdF p s hn w).mono λe w' hh=>⟨hh.1.trans ?_,hh.2 ▸ st0 _⟩
  rw [mk_bs]
 | false =>
  rw [hn] at h
  cases hm:S.num (bs s) with
  | none=>rw [hm] at h;cases h
  | some n =>
   rw [hm] at h
   cases h
   exact zeo p s n hs hn hm w hF
theorem zfz (w:World) (hs:shapesAt w) :
 Calls Tryz.prog 83 #[] w λe w'=>e = .returned (.map (some w.heap.size))/\mapS w' w.heap.size (opsTo 32)/\Below w.heap.size w w':=by
 have HS:=hid hs
 have hmm:=@run_makeMap Tryz.prog
 clear hs
 go_enter Tryz.func83,Tryz.ntmps83
 go_wp2
 go_loopw [2] (λi wr=>∃ j:Nat,j<=32/\i = .int .i64 j/\mapS wr w.heap.size (opsTo j)/\Below w.heap.size w wr) (λi _=>32-(intOf i).toNat)
 case atStart=>exact ⟨0,by omega,rfl,zgW w,(st0 w).alloc (Nat.le_refl _) _⟩
 case round =>
  obtain ⟨j,hj,rfl,hm,hbl⟩:=hrel
  by_cases hlt:j<32
  ·have hlt':(j:Int)<=31:=by omega
   by_cases h30:j=30
   ·subst h30
    have HN:=hid (zkE 30 (by decide) wr (HS.out.kept hbl))
    go_wp2_with (go_at_call 155;refine HN.out.mono ?_;rintro e w1 ⟨rfl,hb1⟩)
    go_roundw
    case rel=>exact ⟨31,by omega,by go_num,by rw [znB];exact hm.below hb1 hm.lt,stp hbl hb1⟩
    case measure=>simp [intOf]
   ·have HN:=hid (zjv j hlt h30 wr (HS.out.kept hbl))
    have HO:=hid (znA j hlt h30)
    go_wp2_with (first
     | (go_at_call 155;refine HN.out.mono ?_;rintro e w1 ⟨rfl,hb1⟩;have hm1:=hm.below hb1 hm.lt)
     | (at_mapUpdate;refine zen _ (by rfl) _ _ _ _ (by rfl) 9 3 Tryz.underlying174 Tryz.underlying9 w.heap.size (opsTo j) (by rfl) hm1 (O.nameS j) j (by rfl) (by rfl) HO.out ?_;intro w2 hm2 hg2))
    go_roundw
    case rel=>exact ⟨j+1,by omega,by go_num,by rw [zjw h30];exact hm2,(stp hbl hb1).grown hg2 (Nat.le_trans hbl.size hb1.size) (λk hk=>by cases hk;exact Nat.le_refl _)⟩
    case measure=>simp [intOf];omega
  ·have hj32:j=32:=by omega
   subst hj32
   go_wp2
   go_ret
   exact ⟨rfl,hm,hbl⟩
theorem zeY (a:Int) (w:World) (ha:0<=a) (ha':a<=65535) :
 Calls Tryz.prog 159 #[.int .u16 a] w λe w'=>e = .returned (.tuple #[.int .u8 (a/256),.int .u8 (a%256)])/\w=w':=by
 go_enter Tryz.func159,Tryz.ntmps159
 go_wp2
 go_ret2
 exact ⟨rfl,rfl⟩
theorem zpV:(Tryz.prog.info? 5).map (λi=>(i.zero,i.size,i.bytes))=some (some (.int .u8 0),1,1):=by kernel_rfl
theorem znD:(Tryz.prog.info? 254).map (λi=>(i.zero,i.size,i.bytes))=some (some (.agg #[.string ⟨#[]⟩,.int .i64 0,.int .i64 0]),3,32):=by kernel_rfl
theorem zgY {ws:List Int} {j:Nat} {x:Int} (h:ws[j]? = some x):S.bytesOf (ws.take (j+1))=S.bytesOf (ws.take j)++[UInt8.ofNat (x/256).toNat,UInt8.ofNat (x%256).toNat]:=by
 have app:∀ a b:List Int,S.bytesOf (a++b)=S.bytesOf a++S.bytesOf b:=λa b=>by
  induction a with
  | nil=>rfl
  | cons y a ih=>simp [S.bytesOf,ih]
 rw [List.take_add_one,h,app];rfl
theorem zba:∀ ws:List Int,(S.bytesOf ws).length=2*ws.length
 | []=>rfl
 | x::ws=>by simp [S.bytesOf,zba ws];omega
theorem zjx (x:Int) (h0:0<=x) (h1:x<=65535):Lib.byteCells [UInt8.ofNat (x/256).toNat,UInt8.ofNat (x%256).toNat]=[.int .u8 (x/256),.int .u8 (x%256)]:=by
 have e1:(UInt8.ofNat (x/256).toNat).toNat=(x/256).toNat:=by simp;omega
 have e2:(UInt8.ofNat (x%256).toNat).toNat=(x%256).toNat:=by simp;omega
 simp only [Lib.byteCells,List.map_cons,List.map_nil,e1,e2]
 rw [show (((x/256).toNat:Nat):Int)=x/256 by omega,show (((x%256).toNat:Nat):Int)=x%256 by omega]
theorem zbQ (l:S.By):(Asmk l).toList.isEmpty=l.isEmpty:=by rw [Lib.toList_data];rfl
theorem wordsAt.block {w w':World} {g:Nat} {l:List Int} (h:wordsAt w g l) (e:w'.heap[g]? = w.heap[g]?):wordsAt w' g l:=λi hi=>(World.cell?_of_block (w:=w) e).trans (h i hi)
section
variable {w w1 : World} {B b mo mp : Nat} {ua ra : Option Addr} {uc rc : Nat} {st : S.St} {ln : Nat}
end
theorem zrt (w:World) (B b mo mp:Nat) (ua ra:Option Addr) (uc rc:Nat) (st:S.St) (ln:Nat) (hR:Rd w B b mo mp ua uc ra rc st ln) (g c:Nat) (ws:List Int) (nm:S.By) (hw:wordsAt w g ws) (hg:g<w.heap.size)
 (hgr:(Value.slice ra st.rom.length rc).ownBlock≠some g) (hgb:g≠b) (hws:∀ x∈ws,0<=x/\x<=65535) (hw0:0<ws.length) (hm:st.rom.length+2*ws.length<=1024) (hc:ws.length<=c) (hBw:B<=w.heap.size) (hul0:st.uses.length+1<=1000000) :
 Calls Tryz.prog 244 #[.pointer (some ⟨b,0,none⟩),.slice (some ⟨g,0,none⟩) ws.length c,.string (Asmk nm)] w λe w' =>
  e = .returned (.tuple #[])/\(∃ ua' uc' ra' rc',Rd w' B b mo mp ua' uc' ra' rc' ⟨st.rom++S.bytesOf ws,st.places,if nm=[] then st.uses else st.uses++[(nm,st.rom.length+2*ws.length-2,ln)]⟩ ln)/\Below B w w':=by
 obtain ⟨i0,hi0,hz0,hz1,hz2⟩:=info_parts zpV
 have hlt:=hR.lt
 have hBb:=hR.hB
 have c3:w.cell? ⟨b,3,none⟩=some (.slice ra st.rom.length rc):=hR.cell 3
 have HR:=hid hR
 have HW:=hid hws
 have HWA:=hid hw
 have hm1:¬ (1024:Int)<st.rom.length+2*ws.length:=by omega
 clear hR hws hw
 go_enter Tryz.func244,Tryz.ntmps244
 go_wp2
 go_loopw [24] (λi wr=>∃ (j:Nat) (ra':Option Addr) (rc':Nat),j<=ws.length/\i = .int .i64 j/\Rd wr B b mo mp ua uc ra' rc' { st with rom:=st.rom++S.bytesOf (ws.take j) } ln/\Below B w wr/\wordsAt wr g ws/\g<wr.heap.size/\(Value.slice ra' (st.rom++S.bytesOf (ws.take j)).length rc').ownBlock≠some g) (λi _=>ws.length-(intOf i).toNat)
 case atStart=>exact ⟨0,ra,rc,by omega,rfl,by simpa [S.bytesOf] using HR.out,Below.refl _ _,HWA.out,hg,by simpa [S.bytesOf] using hgr⟩
 case round =>
  obtain ⟨j,ra',rc',hj,rfl,hR1,hbl,hw1,hg1,hgr1⟩:=hrel
  have hszr:=Nat.le_trans hBw hbl.size
  by_cases hlt2:j<ws.length
  ·have hlt':(j:Int)<ws.length:=by omega
   obtain ⟨x,hx⟩:∃ x,ws[j]? = some x:=⟨_,List.getElem?_eq_getElem hlt2⟩
   obtain ⟨x0,x1⟩:=HW.out x (List.mem_of_getElem? hx)
   have cw:wr.cell? ⟨g,j,none⟩=some (.int .u16 x):=by
    have:=hw1 j hlt2
    rw [show ws.getD j 0=x by simp [List.getD,hx]] at this
    exact this
   obtain ⟨L,hL⟩:∃ L:Nat,L=(st.rom++S.bytesOf (ws.take j)).length:=⟨_,rfl⟩
   have hLb:L=st.rom.length+2*j:=by rw [hL,List.length_append,zba,List.length_take];omega
   have c3r:wr.cell? ⟨b,3,none⟩=some (.slice ra' L rc'):=by rw [hL];exact hR1.cell 3
   have hbr:=hR1.lt
   have hRa:=hid (hR1.kept (stA (st0 wr) (.cells #[.int .u8 (x/256),.int .u8 (x%256)] 5)))
   have hrow:(wr.alloc (.cells #[.int .u8 (x/256),.int .u8 (x%256)] 5)).ownsRow B 5 1 (.slice ra' L rc') L (Lib.byteCells (st.rom++S.bytesOf (ws.take j))):=by rw [hL];exact hRa.out.rom
   have HX:=hid hx
   have HROW:=hid hrow
   have HL:=hid hL
   have HLB:=hid hLb
   have hLm:L+2<=1024:=by omega
   have hgf:Hid (∀ w3,(wr.alloc (.cells #[.int .u8 (x/256),.int .u8 (x%256)] 5)).grownBy w3 (Value.slice ra' L rc').ownBlock->w3.frozen? ⟨b,3,none⟩=false/\b<w3.heap.size/\w3.cell? ⟨b,3,none⟩=some (.slice ra' L rc')):=λw3 hg3=>by
    rw [hL] at hg3 ⊢
    have hb1:=(zaA hg3 hRa.out.lt (Ne.symm hRa.out.rom_b)).trans hRa.out.blk
    exact ⟨Lib.frozen_of_heap hb1 3,Nat.lt_of_lt_of_le hRa.out.lt hg3.size,Lib.cell_of_heap hb1 3⟩
   clear hx c3 hL hLb hrow hR1
   go_wp2_with (first
    | (go_at_call 159;refine (zeY x _ x0 x1).mono ?_;rintro e w' ⟨rfl,rfl⟩)
    | (at_builtin;refine wpList_append_lies _ (by rfl) _ _ _ (by rfl) B 5 i0 _ 1 1 Tryz.underlying26 hi0 hz0 hz1 hz2 rfl (by omega) _ L _ (by rfl) HROW.out ⟨wr.heap.size,0,none⟩ 2 2 [.int .u8 (x/256),.int .u8 (x%256)] (by rfl) (by rfl) (World.news_of_block (cs:=#[.int .u8 (x/256),.int .u8 (x%256)]) (t:=5) (fr:=(0,0)) (heap_alloc_new wr _)) (by simp [Value.oneCell']) (by omega) (by unfold maxLen;omega) (by omega) (by simp;omega) (wr.heap.size+1) (by simp) ?_;intro gg cp w3 hown3 hgrow hat hlt3;obtain ⟨f3,z3,d3⟩:=hgf.out w3 hgrow))
   have e2:st.rom++S.bytesOf (ws.take (j+1))=(st.rom++S.bytesOf (ws.take j))++[UInt8.ofNat (x/256).toNat,UInt8.ofNat (x%256).toNat]:=by rw [zgY HX.out,List.append_assoc]
   have hl2:(st.rom++S.bytesOf (ws.take (j+1))).length=L+2:=by rw [e2,List.length_append,<- HL.out];rfl
   have hcells:Lib.byteCells (st.rom++S.bytesOf (ws.take (j+1)))=Lib.byteCells (st.rom++S.bytesOf (ws.take j))++[.int .u8 (x/256),.int .u8 (x%256)]:=by rw [e2,<- byteCells_append,zjx x x0 x1]
   have hput:=hRa.out.put_rom (ra':=some ⟨gg,0,none⟩) (rc':=cp) (rom':=st.rom++S.bytesOf (ws.take (j+1))) (by rw [HL.out] at hgrow;exact hgrow) (by rw [hl2,hcells];exact hown3)
   rw [hl2] at hput
   have hgr2:(Value.slice ra' L rc').ownBlock≠some g:=by rw [HL.out];exact hgr1
   refine ⟨⟨j+1,some ⟨gg,0,none⟩,cp,by omega,by simp,hput,(((hbl.alloc hszr _).grown hgrow (by simp;omega) (λk hk=>(HROW.out.lt k hk).1)).setCell hBb _),?_,?_,?_⟩,by simp [intOf];omega⟩
   ·refine hw1.block ((Below.heap_setCell _ _ _ _ hgb).trans ((zaA hgrow (by simp;omega) (Ne.symm hgr2)).trans (heap_alloc_old _ _ hg1)))
   ·have:=hgrow.size;simp at this ⊢;omega
   ·simp only [Value.ownBlock,ne_eq,Option.some.injEq]
    rcases hat with h|h
    ·intro e;rw [e] at h;exact hgr2 h
    ·omega
  ·have hjn:j=ws.length:=by omega
   subst hjn
   rw [List.take_length] at hR1
   by_cases hnm:nm=[]
   ·subst hnm
    have he:(Asmk []).toList.isEmpty=true:=zbQ []
    go_wp2
    go_end0
    exact ⟨rfl,⟨ua,uc,ra',rc',hR1⟩,hbl⟩
   ·have he:(Asmk nm).toList.isEmpty=false:=by rw [zbQ];cases nm <;> simp_all
    obtain ⟨i1,hj0,hy0,hy1,hy2⟩:=info_parts znD
    obtain ⟨M,hM⟩:∃ M:Nat,(st.rom++S.bytesOf ws).length=M+2:=⟨st.rom.length+2*ws.length-2,by rw [List.length_append,zba];omega⟩
    have hMb:M=st.rom.length+2*ws.length-2:=by rw [List.length_append,zba] at hM;omega
    have c2:wr.cell? ⟨b,2,none⟩=some (.slice ua st.uses.length uc):=hR1.cell 2
    have c3r:wr.cell? ⟨b,3,none⟩=some (.slice ra' (M+2) rc'):=by rw [<- hM];exact hR1.cell 3
    have c4:wr.cell? ⟨b,4,none⟩=some (.int .i64 ln):=hR1.cell 4
    have hbr:=hR1.lt
    have hM1:M<=1022:=by omega
    have hRa:=hid (hR1.kept (stA (st0 wr) (.cells #[.string (Asmk nm),.int .i64 M,.int .i64 ln] 254)).drew)
    have hU:Hid (((wr.alloc (.cells #[.string (Asmk nm),.int .i64 M,.int .i64 ln] 254)).drew).ownsRow B 254 3 (.slice ua st.uses.length uc) st.uses.length (useCells st.uses)):=hRa.out.uses
    have hN:Hid (∀ j u,([.string (Asmk nm),.int .i64 M,.int .i64 ln]:List Value)[j]? = some u->((wr.alloc (.cells #[.string (Asmk nm),.int .i64 M,.int .i64 ln] 254)).drew).cell? ((⟨wr.heap.size,0,none⟩:Addr).add j)=some u):=World.news_of_block (cs:=#[.string (Asmk nm),.int .i64 M,.int .i64 ln]) (t:=254) (fr:=(0,0)) (heap_alloc_new wr _)
    have hO:Hid (∀ u∈([.string (Asmk nm),.int .i64 M,.int .i64 ln]:List Value),u.oneCell'=true):=by intro u hu;simp at hu;rcases hu with rfl|rfl|rfl <;> rfl
    have hul:Hid (st.uses.length+1<=1000000):=hul0
    have hgf:Hid (∀ w3,((wr.alloc (.cells #[.string (Asmk nm),.int .i64 M,.int .i64 ln] 254)).drew).grownBy w3 (Value.slice ua st.uses.length uc).ownBlock->w3.frozen? ⟨b,2,none⟩=false/\b<w3.heap.size/\w3.cell? ⟨b,2,none⟩=some (.slice ua st.uses.length uc)):=λw3 hg3=>by
     have hb1:=(zaA hg3 hRa.out.lt (Ne.symm hRa.out.uses_b)).trans hRa.out.blk
     exact ⟨Lib.frozen_of_heap hb1 2,Nat.lt_of_lt_of_le hRa.out.lt hg3.size,Lib.cell_of_heap hb1 2⟩
    have hbs:Hid (B<=((wr.alloc (.cells #[.string (Asmk nm),.int .i64 M,.int .i64 ln] 254)).drew).heap.size):=by show B<=_;simp;omega
    have h63:Hid (st.uses.length+1<=maxLen):=by show _<=_;unfold maxLen;omega
    have hby:Hid ((st.uses.length+1)*32<=140737488355328):=by show _<=_;omega
    have HK:Hid (∀ (gg cp:Nat) (w3:World),w3.ownsRow B 254 3 (.slice (some ⟨gg,0,none⟩) (st.uses.length+1) cp) (st.uses.length+1) (useCells st.uses++[.string (Asmk nm),.int .i64 M,.int .i64 ln])->((wr.alloc (.cells #[.string (Asmk nm),.int .i64 M,.int .i64 ln] 254)).drew).grownBy w3 (Value.slice ua st.uses.length uc).ownBlock ->
     Rd (w3.setCell ⟨b,2,none⟩ (.slice (some ⟨gg,0,none⟩) (st.uses.length+1) cp)) B b mo mp (some ⟨gg,0,none⟩) cp ra' rc' ⟨st.rom++S.bytesOf ws,st.places,st.uses++[(nm,st.rom.length+2*ws.length-2,ln)]⟩ ln/\Below B w (w3.setCell ⟨b,2,none⟩ (.slice (some ⟨gg,0,none⟩) (st.uses.length+1) cp))):=λgg cp w3 hown hg3=>by
     have hl:(st.uses++[(nm,M,ln)]).length=st.uses.length+1:=by simp
     have:=hRa.out.put_uses (us':=st.uses++[(nm,M,ln)]) (ua':=some ⟨gg,0,none⟩) (uc':=cp) hg3 (by rw [hl,zcE];exact hown)
     rw [hl] at this
     rw [<- hMb]
     exact ⟨this,((((hbl.alloc hszr _).drew).grown hg3 hbs.out (λk hk=>(hRa.out.uses.lt k hk).1)).setCell hBb _)⟩
    have hwr:IntKind.i64.wrap (M:Int)=M:=by rw [IntKind.wrap_i64];omega
    have HM:=hid hM
    have HMB:=hid hMb
    clear hR1 c3 hM hMb
    go_wp2
    go_region_law (refine step_append_lies _ (by rfl) (.tmp 51) (.tmp 64) 176 (by rfl) B 254 i1 _ 3 32 Tryz.underlying176 hj0 hy0 hy1 hy2 rfl (by omega) (.slice ua st.uses.length uc) st.uses.length (useCells st.uses) (by simp [Act.eval]) hU.out ⟨wr.heap.size,0,none⟩ 1 1 [.string (Asmk nm),.int .i64 M,.int .i64 ln] (by simp [Act.eval]) rfl hN.out hO.out (by omega) h63.out hby.out hbs.out (wr.heap.size+1) (by simp) ?_;intro gg cp w3 hown3 hgrow hat hlt3;obtain ⟨f3,z3,d3⟩:=hgf.out w3 hgrow)
    all_goals
     go_wp2
     go_end0
     obtain ⟨k1,k2⟩:=HK.out gg cp w3 hown3 hgrow
     exact ⟨rfl,⟨_,_,_,_,k1⟩,k2⟩
theorem zfA {ws:List Int} {nm:S.By} {ln:Nat} {st st':S.St} (h:S.put ws nm ln st = .ok st'):st.rom.length+2*ws.length<=1024/\st'=⟨st.rom++S.bytesOf ws,st.places,if nm=[] then st.uses else st.uses++[(nm,st.rom.length+2*ws.length-2,ln)]⟩:=by
 unfold S.put at h
 split at h
 ·cases h
 ·cases h
  exact ⟨by omega,rfl⟩
theorem zkM (w:World) (B b mo mp:Nat) (ua ra:Option Addr) (uc rc:Nat) (st st':S.St) (ln:Nat) (hR:Rd w B b mo mp ua uc ra rc st ln) (g c:Nat) (ws:List Int) (nm:S.By) (hS:S.put ws nm ln st = .ok st') (hw:wordsAt w g ws) (hg:g<w.heap.size)
 (hgr:(Value.slice ra st.rom.length rc).ownBlock≠some g) (hgb:g≠b) (hws:∀ x∈ws,0<=x/\x<=65535) (hw0:0<ws.length) (hc:ws.length<=c) (hBw:B<=w.heap.size) (hul0:st.uses.length+1<=1000000) :
 Calls Tryz.prog 244 #[.pointer (some ⟨b,0,none⟩),.slice (some ⟨g,0,none⟩) ws.length c,.string (Asmk nm)] w λe w' =>
  e = .returned (.tuple #[])/\(∃ ua' uc' ra' rc',Rd w' B b mo mp ua' uc' ra' rc' st' ln)/\Below B w w':=by
 obtain ⟨h1,h2⟩:=zfA hS
 subst h2
 exact zrt w B b mo mp ua ra uc rc st ln hR g c ws nm hw hg hgr hgb hws hw0 h1 hc hBw hul0
theorem bB {B:Nat} {w w':World} (hB:B<=w.heap.size) (h:Below w.heap.size w w'):Below B w w':=h.mono hB
theorem zfB {p:S.By} {ln:Nat} {st st':S.St} (h:S.readWord [p] ln st = .ok st'):∃ v nm,S.wordOrName p=some (v,nm)/\0<=v/\v<=65535/\S.put [v] nm ln st = .ok st':=by
 unfold S.readWord at h
 simp only at h
 split at h
 ·rename_i v nm hv
  split at h
  ·cases h
  ·exact ⟨v,nm,hv,by omega,by omega,h⟩
 ·cases h
theorem putNew (w1:World) (B b mo mp:Nat) (ua ra:Option Addr) (uc rc:Nat) (st st':S.St) (ln:Nat) (hR:Rd w1 B b mo mp ua uc ra rc st ln) (v:Int) (nm:S.By) (hS:S.put [v] nm ln st = .ok st') (v0:0<=v) (v1:v<=65535) (hBw:B<=w1.heap.size) (hul0:st.uses.length+1<=1000000) :
 Calls Tryz.prog 244 #[.pointer (some ⟨b,0,none⟩),.slice (some ⟨w1.heap.size,0,none⟩) 1 1,.string (Asmk nm)] (w1.alloc (.cells #[.int .u16 v] 22)) λe w' =>
  e = .returned (.tuple #[])/\(∃ ua' uc' ra' rc',Rd w' B b mo mp ua' uc' ra' rc' st' ln)/\Below B w1 w':=by
 have hlt:=hR.lt
 refine (zkM _ B b mo mp ua ra uc rc st st' ln (hR.kept (stA (st0 _) _)) w1.heap.size 1 [v] nm hS ?_ (by simp) (λh=>?_) (by omega) (by simp;omega) (by simp) (by simp) (by simp;omega) hul0).mono λe w' ⟨he,h1,h2⟩=>⟨he,h1,((Below.refl _ _).alloc hBw _).trans h2⟩
 ·intro i hi
  obtain rfl:i=0:=by simpa using hi
  exact zai _ _ _ _ rfl
 ·have:=(hR.rom.lt _ h).2;omega
theorem zh5 (w:World) (B b mo mp:Nat) (ua ra:Option Addr) (uc rc:Nat) (st st':S.St) (ln:Nat) (hR:Rd w B b mo mp ua uc ra rc st ln) (g c:Nat) (p:S.By) (hp:p.length<=4000) (hcell:w.cell? ⟨g,0,none⟩=some (.string (Asmk p))) (hg:g<w.heap.size) (hc:1<=c)
 (hS:S.readWord [p] ln st = .ok st') (hBw:B<=w.heap.size) (hul0:st.uses.length+1<=1000000) (hF:AF w) :
 Calls Tryz.prog 213 #[.pointer (some ⟨b,0,none⟩),.slice (some ⟨g,0,none⟩) 1 c] w λe w' =>
  e = .returned (.tuple #[])/\(∃ ua' uc' ra' rc',Rd w' B b mo mp ua' uc' ra' rc' st' ln)/\Below B w w':=by
 obtain ⟨v,nm,hv,v0,v1,hput⟩:=zfB hS
 have HW:=hid (zcF (some ⟨b,0,none⟩) (Asmk p) (v,nm) (by rw [zcs];omega) hv w hF)
 have HR:=hid hR
 have HP:=hid hput
 have v0':¬ v<0:=by omega
 have v1':¬ 65535<v:=by omega
 clear hR hput hS hv hF
 go_enter Tryz.func213,Tryz.ntmps213
 go_wp2_with (first
  | (go_at_call 243;refine HW.out.mono ?_;rintro e w1 ⟨rfl,hb1⟩;have hR1:=HR.out.kept (stA hb1 (.cells #[.int .u16 v] 22));have hBw1:=Nat.le_trans hBw hb1.size)
  | (go_at_call 244;refine (putNew w1 B b mo mp ua ra uc rc st st' ln (HR.out.kept hb1) v nm HP.out v0 v1 hBw1 hul0).mono ?_;rintro e w2 ⟨rfl,hR2,hb2⟩))
 go_end0
 exact ⟨rfl,hR2,(bB hBw hb1).trans hb2⟩
theorem zdG {name:S.By} {st st':S.St} (h:S.readPlace name st = .ok st'):S.nameOk name=true/\st.places.find? (λp=>p.1 == name)=none/\st'={ st with places:=st.places++[(name,st.rom.length)] }:=by
 unfold S.readPlace at h
 split at h
 ·rename_i hn
  split at h
  ·cases h
  ·rename_i hf
   cases h
   exact ⟨hn,hf,rfl⟩
 ·cases h
theorem zjy (s:ByteArray) (w:World):Calls Tryz.prog 242 #[.string s] w λe w'=>e = .returned (.bool (S.nameOk (bs s)))/\w=w':=(zcr s w).mono λe w' hh=>⟨hh.1,hh.2.symm⟩
theorem zfC (w:World):(zeroValue 3).run Tryz.prog w = .ok (.int .i64 0) w:=by kernel_rfl
theorem zpW (l:List (S.By × Nat)) (a:S.By) (n:Nat):pl (l++[(a,n)])=pl l++[(Asmk a,(n:Int))]:=by unfold pl;simp
theorem zgZ (w:World) (B b mo mp:Nat) (ua ra:Option Addr) (uc rc:Nat) (st st':S.St) (ln:Nat) (hR:Rd w B b mo mp ua uc ra rc st ln) (name:S.By) (hS:S.readPlace name st = .ok st') (hBw:B<=w.heap.size) :
 Calls Tryz.prog 212 #[.pointer (some ⟨b,0,none⟩),.string (Asmk name)] w λe w' =>
  e = .returned (.tuple #[])/\(∃ ua' uc' ra' rc',Rd w' B b mo mp ua' uc' ra' rc' st' ln)/\Below B w w':=by
 obtain ⟨hn,hf,hst⟩:=zdG hS
 have HN:=hid (zjy (Asmk name) w)
 rw [bs_mk,hn] at HN
 have hfp:(pl st.places).find? (λp=>p.1 == Asmk name)=none:=by rw [zkK,bs_mk,hf];rfl
 have hlk:=zfy (P:=Tryz.prog) Tryz.underlying174 Tryz.underlying9 hR.places (Asmk name) (zfC w)
 rw [hfp] at hlk
 simp only [Option.map_none,Option.getD_none,Option.isSome_none] at hlk
 obtain ⟨w1,hrun,hm1,hg1⟩:=ziZ (P:=Tryz.prog) (w:=w.drew) Tryz.underlying174 Tryz.underlying9 hR.places (Asmk name) (st.rom.length:Int) hfp
 have c1:w.cell? ⟨b,1,none⟩=some (.map (some mp)):=hR.cell 1
 have c3:w.cell? ⟨b,3,none⟩=some (.slice ra st.rom.length rc):=hR.cell 3
 have hlt:=hR.lt
 have HR:=hid hR
 have HM:=hid hm1
 have HG:=hid hg1
 have HST:=hid hst
 clear hR hS hn hf hst hfp hm1 hg1
 go_enter Tryz.func212,Tryz.ntmps212
 go_wp2_with (go_at_call 242;refine HN.out.mono ?_;rintro e w' ⟨rfl,rfl⟩)
 go_region
 go_wp2
 all_goals
  go_end0
  rw [HST.out]
  refine ⟨rfl,⟨ua,uc,ra,rc,?_⟩,?_⟩
  ·exact Rd.put_place (w:=w.drew) (HR.out.kept (st0 w).drew) HG.out (by rw [zpW];exact HM.out)
  ·exact ((Below.refl B w).drew).grown HG.out hBw (λk hk=>by cases hk;exact HR.out.hmp)
end Go.Proofs.YtbennamieealbaaGreatDoor
