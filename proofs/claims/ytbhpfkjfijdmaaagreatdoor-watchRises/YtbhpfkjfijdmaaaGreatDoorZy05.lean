/-
  Parts of a proof, joined.
-/
import Derived.WalkKit
import Derived.ProofKit
import Derived.Maps.OwnOps
import Derived.ChangeMaps5
import Derived.Test.YtbhpfkjfijdmaaaGreatDoorZy04
import Derived.Deep.RegionLaw
import Derived.BigRegion
import Derived.Deep.RegionHeld3
import Derived.Deep.QuietTactic
import Derived.BigQuiet
import Derived.Defers
import Derived.Recover
import Derived.Laws.Pointers
import Derived.Shelf.LaysM
import Derived.Shelf.LaysC
import Derived.Shelf.Bytes.SlSearch0
import Derived.Test.YtbhpfkjfijdmaaaGreatDoorProg
import Derived.Laws.BytesArg
import Derived.Test.YtbhpfkjfijdmaaaGreatDoorZy00
import Derived.Lib.LaidTab
import Derived.Test.YtbhpfkjfijdmaaaGreatDoorZy01
import Derived.Test.YtbhpfkjfijdmaaaGreatDoorChecked
import GoSem.PinnedTables
import GoSem.Claim
import GoSem.ClaimJoined
import GoSem.ClaimMapViews
import Derived.JoinedTies
import Derived.KernelRfl
import Derived.OpenShut
import Derived.WalkSpells
import Derived.Outline
import Derived.Below
import Derived.Deep.Strs
import Derived.Laws.StructEq
import Derived.Deep.MidRow
import Derived.Deep.Fields
import Derived.Lib.Builder
import Derived.Deep.RegionWith
import Derived.Test.YtbhpfkjfijdmaaaGreatDoorZy02
namespace Go.Proofs.YtbhpfkjfijdmaaaGreatDoor
open Go.ChangeShapes Go.WideShapes Go.ChangeAt Go.RowKit
set_option linter.unusedVariables false
set_option maxRecDepth 100000
def mapS (w:World) (b:Nat) (l:List (ByteArray × Int)):Prop :=
 ∃ es clock,w.heap[b]? = some (.map es clock)/\es.toList.map (fun e=>(e.key,e.val))=l.map (fun p=>(Value.string p.1,Value.int .i64 p.2))
theorem mapS.lt {w:World} {b:Nat} {l:List (ByteArray × Int)} (h:mapS w b l):b < w.heap.size:=by
 obtain ⟨es,c,hb,_⟩:=h
 exact (Array.getElem?_eq_some_iff.1 hb).1
theorem mapS.of_block {w w':World} {b:Nat} {l:List (ByteArray × Int)} (h:mapS w b l) (e:w'.heap[b]? = w.heap[b]?):mapS w' b l:=by
 obtain ⟨es,c,hb,hm⟩:=h
 exact ⟨es,c,e.trans hb,hm⟩
theorem mapS.below {w w':World} {b B:Nat} {l:List (ByteArray × Int)} (h:mapS w b l) (hb:Below B w w') (hB:b < B):mapS w' b l:=h.of_block (hb.block b hB)
/-! ### the orders by their names -/
def opsTo (j:Nat):List (ByteArray × Int):=((List.range j).filter (fun k=>k != 30)).map (fun k=>(O.nameS k,(k:Int)))
/-! ### the reader -/
def pl (l:List (S.By × Nat)):List (ByteArray × Int):=l.map (fun p=>(Asmk p.1,(p.2:Int)))
def useCells:List (S.By × Nat × Nat)->List Value
 | []=>[]
 | u :: us=>[.string (Asmk u.1),.int .i64 u.2.1,.int .i64 u.2.2]++useCells us
structure Rd (w : World) (B b mo mp : Nat) (ua : Option Addr) (uc : Nat) (ra : Option Addr) (rc : Nat) (st : S.St) (ln : Nat) : Prop where
 hB:B<=b
 blk:w.heap[b]? = some (.cells #[.map (some mo),.map (some mp),.slice ua st.uses.length uc,.slice ra st.rom.length rc,.int .i64 ln] 167 (0,0))
 ops:mapS w mo (opsTo 32)
 places:mapS w mp (pl st.places)
 hmp:B<=mp
 ne:mo ≠ mp
 uses:w.ownsRow B 198 3 (.slice ua st.uses.length uc) st.uses.length (useCells st.uses)
 rom:w.ownsRow B 5 1 (.slice ra st.rom.length rc) st.rom.length (Lib.byteCells st.rom)
section
variable {w w' : World} {B b mo mp : Nat} {ua ra : Option Addr} {uc rc : Nat} {st : S.St} {ln : Nat}
theorem Rd.lt (h:Rd w B b mo mp ua uc ra rc st ln):b < w.heap.size:=(Array.getElem?_eq_some_iff.1 h.blk).1
theorem Rd.cell (h:Rd w B b mo mp ua uc ra rc st ln) (i:Nat):w.cell? ⟨b,i,none⟩=(#[.map (some mo),.map (some mp),.slice ua st.uses.length uc,.slice ra st.rom.length rc,.int .i64 ln]:Array Value)[i]?:=Lib.cell_of_heap h.blk i
theorem Rd.frozen (h:Rd w B b mo mp ua uc ra rc st ln) (i:Nat):w.frozen? ⟨b,i,none⟩=false:=Lib.frozen_of_heap h.blk i
theorem Rd.kept (h:Rd w B b mo mp ua uc ra rc st ln) (hb:Below w.heap.size w w'):Rd w' B b mo mp ua uc ra rc st ln :=
 ⟨h.hB,(hb.block b h.lt).trans h.blk,h.ops.below hb h.ops.lt,h.places.below hb h.places.lt,h.hmp,h.ne,h.uses.kept (grown_of_below hb) (own_none _),h.rom.kept (grown_of_below hb) (own_none _)⟩
theorem AssetCell_blk {w:World} {b i:Nat} {cs:Array Value} {t:TypeId} {fr:Nat × Nat} (h:w.heap[b]? = some (.cells cs t fr)) (v:Value):(w.setCell ⟨b,i,none⟩ v).heap[b]? = some (.cells (cs.setIfInBounds i v) t fr):=by
 simp [World.setCell,Array.getElem?_modify,h]
end
theorem wordsAt.block {w w':World} {g:Nat} {l:List Int} (h:wordsAt w g l) (e:w'.heap[g]? = w.heap[g]?):wordsAt w' g l:=fun i hi=>(World.cell?_of_block (w:=w) e).trans (h i hi)
section
variable {w w1 : World} {B b mo mp : Nat} {ua ra : Option Addr} {uc rc : Nat} {st : S.St} {ln : Nat}
end
def strsAt (w:World) (g:Nat) (ps:List S.By):Prop:=∀ (j:Nat) (s:S.By),ps[j]? = some s->w.cell? ⟨g,j,none⟩=some (.string (Asmk s))
theorem strsAt.kept {w w':World} {g B:Nat} {ps:List S.By} (h:strsAt w g ps) (hb:Below B w w') (hB:g < B):strsAt w' g ps:=fun j s hj=>(hb.cell hB).trans (h j s hj)
theorem ord_set (k:Nat) (o:S.Ord) (p:Nat) (hp:p < 4) (v:Int):(ordCells k o).setIfInBounds (offP p) (.int .i64 v)=ordCells k (o.set p v):=by
 have hc:p=0 \/ p=1 \/ p=2 \/ p=3:=by omega
 rcases hc with rfl | rfl | rfl | rfl <;> rfl
def ordAt (w:World) (g k:Nat) (o:S.Ord):Prop:=w.heap[g]? = some (.cells (ordCells k o) 255 (0,0))
theorem ordAt.kept {w w':World} {g k:Nat} {o:S.Ord} (h:ordAt w g k o) (hb:Below w.heap.size w w'):ordAt w' g k o:=(hb.block g (Array.getElem?_eq_some_iff.1 h).1).trans h
theorem ordAt.lt {w:World} {g k:Nat} {o:S.Ord} (h:ordAt w g k o):g < w.heap.size:=(Array.getElem?_eq_some_iff.1 h).1
theorem ordAt.frozen {w:World} {g k:Nat} {o:S.Ord} (h:ordAt w g k o) (i:Nat):w.frozen? ⟨g,i,none⟩=false:=Lib.frozen_of_heap h i
theorem ordAt.cell {w:World} {g k:Nat} {o:S.Ord} (h:ordAt w g k o) (i:Nat):w.cell? ⟨g,i,none⟩=(ordCells k o)[i]?:=Lib.cell_of_heap h i
theorem ordAt.set {w:World} {g k:Nat} {o:S.Ord} (h:ordAt w g k o) (p:Nat) (hp:p < 4) (v:Int):ordAt (w.setCell ⟨g,offP p,none⟩ (.int .i64 v)) g k (o.set p v):=by
 unfold ordAt
 rw [AssetCell_blk h,ord_set k o p hp v]
theorem Asmk_toList (l:S.By):(Asmk l).toList=l:=by rw [Lib.toList_data];rfl
/-! ### how many uses a line leaves -/
theorem pow_of_laid {W:World} {l:List (String × DataW Unit)} (h:laidMet Tryz.prog l W) (hm:("internal/strconv.uint64pow10",Rows.laid_internal_strconv_uint64pow10) ∈ l) :
 Lib.TabIs Tryz.prog W "internal/strconv.uint64pow10" .u64 Lib.pow10Tab:=by
 obtain ⟨g,t,cs,fuel,p,hg,ht,hv,hd⟩:=Lib.laidMet.reads h hm
 have e2:(Tryz.prog.globals[4]?).map (·.type)=some 340:=by kernel_rfl
 obtain rfl:=Option.some.inj (g_pow.symm.trans hg)
 obtain rfl:=Option.some.inj (e2.symm.trans ht)
 have e3:(Rows.laid_internal_strconv_uint64pow10:DataW Unit)=Lib.tabData .u64 Lib.pow10Tab:=by kernel_rfl
 rw [e3] at hd
 unfold Lib.TabIs
 rw [hv,<- Lib.cells_of_tab Tryz.underlying340 Tryz.underlying311 (by kernel_rfl) (by kernel_rfl) hd]
theorem af_of {W:World} {l:List (String × DataW Unit)} (h:laidMet Tryz.prog l W) (hs:W.ShapedOpen Tryz.prog) (h1:("internal/strconv.uint64pow10",Rows.laid_internal_strconv_uint64pow10) ∈ l) (h2:("marquee/order.shapes",Rows.laid_marquee_order_shapes) ∈ l):AF W :=
 ⟨pow_of_laid h h1,maxLen_cell hs,shapes_of_laid h h2⟩
theorem cycles_yes (k:Nat) (hk:k < 32) (h30:k ≠ 30) (w:World) (hs:shapesAt w) :
 Calls Tryz.prog 175 #[.int .i64 k] w fun e w'=>e = .returned (.tuple #[.int .i64 (K.cyc k),.int .i64 (lenOf (O.mask k)),.int .i64 0])/\Below w.heap.size w w':=by
 have HS:=hid hs
 clear hs
 go_enter Tryz.func175,Tryz.ntmps175
 go_wp2_with (go_at_call 155;refine (shape_yes k hk h30 _ HS.out).mono ?_;rintro e w1 ⟨rfl,hb1⟩)
 go_region_held3 (fun w'=>w'.cell? ⟨w1.heap.size,0,none⟩=some (.string (O.nameS k))/\w'.cell? ⟨w1.heap.size,1,none⟩=some (.int .i64 (K.cyc k))/\w'.cell? ⟨w1.heap.size,2,none⟩=some (.int .i64 (O.mask k)))
  (first
    | go_keep
    | (go_split_ands
       refine ⟨?_,?_,?_⟩
       ·(rw [hb2.cell (by simp)];assumption)
       ·(rw [hb2.cell (by simp)];assumption)
       ·(rw [hb2.cell (by simp)];assumption)))
  ((go_at_call 206;refine (words_any _ _ k hk _).mono ?_;rintro e w2 ⟨rfl,hb2⟩))
 go_wp2
 go_ret3
 exact ⟨rfl,stp (stA hb1 _).drew hb2⟩
end Go.Proofs.YtbhpfkjfijdmaaaGreatDoor
namespace Go.Proofs.YtbhpfkjfijdmaaaGreatDoor.C
set_option linter.unusedVariables false
set_option maxRecDepth 100000
structure Cpu where
 R:List Int
 PC:Int
 Z:Bool
 N:Bool
 C:Bool
 V:Bool
 May:Bool
 Waits:Bool
deriving DecidableEq
structure Mem (σ : Type) where
 rd:σ->Int->Int × σ
 wr:σ->Int->Int->σ
 fuel:σ->Nat:=fun _=>4
structure St (σ : Type) where
 c:Cpu
 s:σ
 n:Int
def Cpu.r (c:Cpu) (i:Int):Int:=c.R.getD i.toNat 0
def Cpu.set (c:Cpu) (i:Int) (x:Int):Cpu:={ c with R:=c.R.set i.toNat x }
def Cpu.zero:Cpu:=⟨[0,0,0,0,0,0,0,0],0,false,false,false,false,false,false⟩
def sign (c:Cpu):Int:=(if c.Z then 1 else 0)+(if c.N then 2 else 0)+(if c.C then 4 else 0)+(if c.V then 8 else 0)+(if c.May then 16 else 0)
def Cpu.ok (c:Cpu):Prop:=c.R.length=8/\(∀ x ∈ c.R,0<=x/\x<=65535)/\0<=c.PC/\c.PC<=65535
section
variable {σ : Type} (m : Mem σ)
def Mem.rdw (s:σ) (a:Int):Int × σ:=((m.rd s a).1 * 256+(m.rd (m.rd s a).2 ((a+1) % 65536)).1,(m.rd (m.rd s a).2 ((a+1) % 65536)).2)
def Mem.wrw (s:σ) (a n:Int):σ:=m.wr (m.wr s a (n / 256)) ((a+1) % 65536) (n % 256)
def push (x:St σ) (n:Int):St σ:=⟨x.c.set 7 ((x.c.r 7 - 2) % 65536),m.wrw x.s ((x.c.r 7 - 2) % 65536) n,x.n⟩
def popV (x:St σ):Int:=(m.rdw x.s (x.c.r 7)).1
def pop (x:St σ):St σ:=⟨x.c.set 7 ((x.c.r 7+2) % 65536),(m.rdw x.s (x.c.r 7)).2,x.n⟩
def toPC (x:St σ) (a:Int):St σ:={ x with c:={ x.c with PC:=a } }
def leave (x:St σ) (at':Int):St σ :=
 let y:=push m (push m x x.c.PC) (sign (push m x x.c.PC).c)
 ⟨{ y.c with May:=false,Waits:=false,PC:=(m.rdw y.s at').1 },(m.rdw y.s at').2,y.n⟩
def comeBack (x:St σ):St σ :=
 let n:=popV m x
 let y:=pop m x
 let z:=pop m y
 ⟨{ z.c with PC:=popV m y,Z:=decide (n % 2=1),N:=decide (n / 2 % 2=1),C:=decide (n / 4 % 2=1),V:=decide (n / 8 % 2=1),May:=decide (n / 16 % 2=1) },z.s,z.n⟩
def setR (x:St σ) (d v:Int):St σ:={ x with c:=x.c.set d v }
def signs (x:St σ) (n:Int) (c v:Bool):St σ:={ x with c:={ x.c with Z:=n == 0,N:=decide (32768<=n),C:=c,V:=v } }
def flN (k:Nat) (a b:Int):Int:=if k=7 \/ k=15 then M.addN a b else if k=8 \/ k=14 then M.subN a b else if k=9 then bits .and .u16 a b else if k=10 then bits .or .u16 a b else if k=11 then bits .xor .u16 a b else M.mulN a b
def flC (k:Nat) (a b:Int):Bool:=if k=7 \/ k=15 then M.addC a b else if k=8 \/ k=14 then M.subC a b else if k=9 \/ k=10 \/ k=11 then false else M.mulC a b
def flV (k:Nat) (a b:Int):Bool:=if k=7 \/ k=15 then M.addV a b else if k=8 \/ k=14 then M.subV a b else false
def reckon (x:St σ) (k:Nat) (a b:Int):St σ:=signs x (flN k a b) (flC k a b) (flV k a b)
def jump (x:St σ) (w:Int):St σ:=⟨{ x.c with PC:=w },x.s,x.n+1⟩
def both (x:St σ) (k:Nat) (d s:Int):St σ:=setR (reckon x k (x.c.r d) (x.c.r s)) d (flN k (x.c.r d) (x.c.r s))
def shift (x:St σ) (d n:Int) (o:Bool):St σ:=setR (signs x n o false) d n
def act (x:St σ) (k:Nat) (d s n w:Int):St σ :=
 match k with
 | 1=>setR x d (x.c.r s)
 | 2=>setR x d w
 | 3=>⟨x.c.set d (m.rdw x.s ((x.c.r s+n) % 65536)).1,(m.rdw x.s ((x.c.r s+n) % 65536)).2,x.n⟩
 | 4=>{ x with s:=m.wrw x.s ((x.c.r d+n) % 65536) (x.c.r s) }
 | 5=>⟨x.c.set d (m.rd x.s ((x.c.r s+n) % 65536)).1,(m.rd x.s ((x.c.r s+n) % 65536)).2,x.n⟩
 | 6=>{ x with s:=m.wr x.s ((x.c.r d+n) % 65536) (x.c.r s % 256) }
 | 7=>both x 7 d s
 | 8=>both x 8 d s
 | 9=>both x 9 d s
 | 10=>both x 10 d s
 | 11=>both x 11 d s
 | 12=>shift x d (M.shlN (x.c.r d) n) (M.shlC (x.c.r d) n)
 | 13=>shift x d (M.shrN (x.c.r d) n) (M.shrC (x.c.r d) n)
 | 14=>reckon x 14 (x.c.r d) (x.c.r s)
 | 15=>setR (reckon x 15 (x.c.r d) (n % 65536)) d (flN 15 (x.c.r d) (n % 65536))
 | 16=>jump x w
 | 17=>if x.c.Z then jump x w else x
 | 18=>if x.c.N then jump x w else x
 | 19=>if x.c.C then jump x w else x
 | 20=>toPC (push m x x.c.PC) w
 | 21=>toPC (pop m x) (popV m x)
 | 22=>push m x (x.c.r s)
 | 23=>setR (pop m x) d (popV m x)
 | 24=>{ x with c:={ x.c with May:=true } }
 | 25=>{ x with c:={ x.c with May:=false } }
 | 26=>comeBack m x
 | 27=>{ x with c:={ x.c with Waits:=true } }
 | 28=>both x 28 d s
 | 29=>if x.c.Z then x else jump x w
 | 31=>leave m x 4
 | _=>x
def word1 (c:Cpu) (s:σ):Int:=(m.rdw s c.PC).1
def word2 (c:Cpu) (s:σ):Int:=if O.rLen (word1 m c s)=2 then (m.rdw (m.rdw s c.PC).2 ((c.PC+2) % 65536)).1 else 0
def behind (c:Cpu) (s:σ):St σ :=
 ⟨{ c with PC:=(c.PC+2 * O.rLen (word1 m c s)) % 65536 },if O.rLen (word1 m c s)=2 then (m.rdw (m.rdw s c.PC).2 ((c.PC+2) % 65536)).2 else (m.rdw s c.PC).2,0⟩
def order (c:Cpu) (s:σ):St σ :=
 act m { behind m c s with n:=K.cyc (O.rk (word1 m c s)) } (O.rk (word1 m c s)) (O.rD (word1 m c s)) (O.rS (word1 m c s)) (O.rN (word1 m c s)) (O.rW (word1 m c s) (word2 m c s))
def step (c:Cpu) (s:σ) (rings:Bool):St σ :=
 if rings && c.May then { leave m ⟨c,s,0⟩ 2 with n:=6 }
 else if c.Waits then ⟨c,s,1⟩
 else order m c s
end
/-! ### what is in range stays in range -/
theorem Cpu.r_bd {c:Cpu} (h:c.ok) (i:Int):0<=c.r i/\c.r i<=65535:=by
 unfold Cpu.r
 by_cases hi:i.toNat < c.R.length
 ·rw [List.getD_eq_getElem?_getD,List.getElem?_eq_getElem hi]
  exact h.2.1 _ (List.getElem_mem hi)
 ·rw [List.getD_eq_getElem?_getD,List.getElem?_eq_none (by omega)];simp
theorem Cpu.ok_set {c:Cpu} (h:c.ok) (i x:Int) (h0:0<=x) (h1:x<=65535):(c.set i x).ok:=by
 refine ⟨by simp [Cpu.set,h.1],fun y hy=>?_,h.2.2.1,h.2.2.2⟩
 rcases List.mem_or_eq_of_mem_set hy with hy | rfl
 ·exact h.2.1 y hy
 ·exact ⟨h0,h1⟩
theorem Cpu.r_set {c:Cpu} (h:c.ok) (i:Nat) (hi:i < 8) (x:Int):(c.set i x).r i=x:=by
 unfold Cpu.r Cpu.set
 simp only [Int.toNat_natCast]
 rw [List.getD_eq_getElem?_getD,List.getElem?_set_self (by rw [h.1];exact hi)]
 rfl
theorem Cpu.ok_pc {c:Cpu} (h:c.ok) (x:Int) (h0:0<=x) (h1:x<=65535):Cpu.ok { c with PC:=x }:=⟨h.1,h.2.1,h0,h1⟩
theorem sign_bd (c:Cpu):0<=sign c/\sign c<=31:=by unfold sign;split <;> split <;> split <;> split <;> split <;> omega
end Go.Proofs.YtbhpfkjfijdmaaaGreatDoor.C
namespace Go.Proofs.YtbhpfkjfijdmaaaGreatDoor
open Go.ChangeShapes Go.WideShapes Go.ChangeAt Go.RowKit
set_option linter.unusedVariables false
set_option maxRecDepth 100000
def sel (l:Bool) (a b:Int):Int:=if l then a else b
theorem sel_ind {P:Int->Prop} (l:Bool) {a b:Int} (ha:P a) (hb:P b):P (sel l a b):=by cases l <;> assumption
theorem Pl.new (w:World) (cs:Array Value) (t:TypeId) (b:Nat) (h:b=w.heap.size) {k:Nat}:(w.alloc (.cells cs t)).cell? ⟨b,k,none⟩=cs[k]?:=by subst h;exact World.cell?_alloc_new ..
theorem Pl.there_new (w:World) (cs:Array Value) (t:TypeId) (n b:Nat) (hb:b=w.heap.size) (h:cs.size=n):(w.alloc (.cells cs t)).there b 0 n:=fun j hj=>by
 subst hb
 refine ⟨?_,Lib.frozen_of_heap (heap_alloc_new w _) _⟩
 rw [Pl.new _ _ _ _ rfl,Array.getElem?_eq_getElem (by omega)]
 rfl
theorem Pl.there_old {w w':World} {b n:Nat} (h:w.there b 0 n) (hb:Below w.heap.size w w') (hlt:b < w.heap.size):w'.there b 0 n:=fun j hj=>by
 have:=h j hj
 rw [hb.cell (p:=⟨b,0+j,none⟩) hlt,hb.frozen (p:=⟨b,0+j,none⟩) hlt]
 exact this
theorem Pl.below {n:Nat} {a:World} {b:Nat} (hb:n<=b):∀ (vs:List Value) (o:Nat) (w:World),Below n a w->Below n a (w.setCells b o vs)
 | [],o,w,h=>h
 | v :: vs,o,w,h=>Pl.below hb vs (o+1) _ (h.setCell hb v)
theorem Pl.fin {w w0 w1:World} {b:Nat} (L:List Value) (hth:w0.there b 0 L.length) (hb0:Below w.heap.size w w0) (hb1:Below w0.heap.size w0 w1) (hlt:b < w0.heap.size) (hw:w.heap.size<=b):Below w.heap.size w (w1.setCells b 0 L)/\(w1.setCells b 0 L).rangeAt b 0 L :=
 ⟨Pl.below hw L 0 w1 (stp hb0 hb1),World.rangeAt_setCells_same w1 b 0 L (Pl.there_old hth hb1 hlt)⟩
theorem Pl.cutW {P:Program} {code:Code} {Q:Exit->Act->World->Prop} {a:Act} {w:World} (K:World->Prop) (h:K w) (k:∀ w',K w'->code.wp P Q a w'):code.wp P Q a w:=k w h
theorem Pl.cutB {P:Program} {fn:Func} {R:Ending->World->Prop} {e:Exit} {a:Act} {w:World} (K:World->Prop) (h:K w) (k:∀ w',K w'->bodyPost P fn R e a w'):bodyPost P fn R e a w:=k w h
theorem Pl.spot {w:World} {a:Addr} {v:Value} (h:w.cell? a=some v):a.spot=none:=by
 unfold World.cell? at h
 split at h
 ·split at h
  ·cases h
  ·rename_i hs
   cases hh:a.spot with
   | none=>rfl
   | some x=>rw [hh] at hs;simp at hs
 ·cases h
def isAt (k:IntKind) (w:World) (v:Value) (l:List Int):Prop:=(∃ a cap,v = .slice a 0 cap/\l=[]) \/ ∃ g o cap,v = .slice (some ⟨g,o,none⟩) l.length cap/\g < w.heap.size /\ ∀ j x,l[j]? = some x->w.cell? ⟨g,o+j,none⟩=some (.int k x)
theorem isAt.kept {k:IntKind} {w w':World} {v:Value} {l:List Int} (h:isAt k w v l) (hb:Below w.heap.size w w'):isAt k w' v l:=by
 rcases h with h | ⟨g,o,cap,h1,h3,h4⟩
 ·exact Or.inl h
 ·exact Or.inr ⟨g,o,cap,h1,Nat.lt_of_lt_of_le h3 hb.size,fun j x hj=>(hb.cell (p:=⟨g,o+j,none⟩) h3).trans (h4 j x hj)⟩
theorem isAt.at {k:IntKind} {w W:World} {a:Option Addr} {n c:Nat} {l:List Int} (h:isAt k w (.slice a n c) l) (hb:Below w.heap.size w W) {j:Nat} {x:Int} (hx:l[j]? = some x):∃ g o,a=some ⟨g,o,none⟩/\g < w.heap.size/\W.cell? ⟨g,o+j,none⟩=some (.int k x):=by
 rcases h with ⟨a',c',h1,h2⟩ | ⟨g,o,c',h1,h3,h4⟩
 ·rw [h2] at hx;simp at hx
 ·simp only [Value.slice.injEq] at h1
  exact ⟨g,o,h1.1,h3,(hb.cell (p:=⟨g,o+j,none⟩) h3).trans (h4 j x hx)⟩
theorem ret_v {a b:Value} (h:a=b):Ending.returned a = .returned b:=by rw [h]
theorem xA {α:Type} {l:List α} {i:Nat} {a:α}:l.toArray.setIfInBounds i a=(l.set i a).toArray:=List.setIfInBounds_toArray _ _ _
theorem xB {α:Type} {a b:α} {l:List α}:(a :: l).set 0 b=b :: l:=List.set_cons_zero
theorem xC {α:Type} {a b:α} {l:List α} {n:Nat}:(a :: l).set (n+1) b=a :: l.set n b:=List.set_cons_succ
structure Mv (B : Nat) (T T' : Nat -> Prop) (w w' : World) : Prop where
 below:Below B w w'
 block:∀ k,k < w.heap.size->¬ T k->w'.heap[k]? = w.heap[k]?
 fresh:∀ k,T' k->T k \/ w.heap.size<=k
section
variable {B : Nat} {T T' T'' : Nat -> Prop} {a b c w w' : World}
theorem Mv.size (h:Mv B T T' w w'):w.heap.size<=w'.heap.size:=h.below.size
theorem Mv.refl (B:Nat) (T:Nat->Prop) (w:World):Mv B T T w w:=⟨Below.refl _ _,fun _ _ _=>rfl,fun _ h=>Or.inl h⟩
theorem Mv.trans (h:Mv B T T' a b) (k:Mv B T' T'' b c):Mv B T T'' a c :=
 ⟨h.below.trans k.below,fun i hi ht=>(k.block i (Nat.lt_of_lt_of_le hi h.size) (fun ht'=>by rcases h.fresh i ht' with x | x;exact ht x;omega)).trans (h.block i hi ht),
   fun i hi=>by
    rcases k.fresh i hi with x | x
    ·exact h.fresh i x
    ·exact Or.inr (Nat.le_trans h.size x)⟩
theorem Mv.of_below (hB:B<=w.heap.size) (h:Below w.heap.size w w'):Mv B T T w w':=⟨h.mono hB,fun k hk _=>h.block k hk,fun _ h=>Or.inl h⟩
theorem Mv.alloc (h:Mv B T T' w w') (hB:B<=w.heap.size) (o:Obj):Mv B T T' w (w'.alloc o) :=
 ⟨h.below.alloc (Nat.le_trans hB h.size) o,fun k hk ht=>(Below.heap_alloc _ _ _ (Nat.lt_of_lt_of_le hk h.size)).trans (h.block k hk ht),h.fresh⟩
theorem Mv.drew (h:Mv B T T' w w'):Mv B T T' w w'.drew:=⟨h.below.drew,h.block,h.fresh⟩
theorem Mv.drewN (h:Mv B T T' w w') (n:Nat):Mv B T T' w (w'.drewN n):=⟨⟨h.below.os,h.below.tape,h.below.output,h.below.size,h.below.block⟩,h.block,h.fresh⟩
theorem Mv.setCell (h:Mv B T T' w w') {p:Addr} (hB:B<=p.block) (hp:T p.block \/ w.heap.size<=p.block) (u:Value):Mv B T T' w (w'.setCell p u) :=
 ⟨h.below.setCell hB u,fun k hk ht=>(Below.heap_setCell _ _ _ _ (fun e=>by subst e;rcases hp with x | x;exact ht x;omega)).trans (h.block k hk ht),h.fresh⟩
theorem Mv.cell (h:Mv B T T' w w') {k:Nat} (hk:k < w.heap.size) (ht:¬ T k) (o:Nat):w'.cell? ⟨k,o,none⟩=w.cell? ⟨k,o,none⟩:=World.cell?_of_block (w:=w) (h.block k hk ht)
theorem Mv.froz (h:Mv B T T' w w') {k:Nat} (hk:k < w.heap.size) (ht:¬ T k) (o:Nat):w'.frozen? ⟨k,o,none⟩=w.frozen? ⟨k,o,none⟩:=World.frozen?_of_block (w:=w) (h.block k hk ht)
theorem Mv.also (h:Mv B T T' w w') (p:Nat):Mv B (fun k=>k=p \/ T k) (fun k=>k=p \/ T' k) w w' :=
 ⟨h.below,fun k hk ht=>h.block k hk (fun x=>ht (Or.inr x)),fun k hk=>by
   rcases hk with x | x
   ·exact Or.inl (Or.inl x)
   ·rcases h.fresh k x with y | y
    ·exact Or.inl (Or.inr y)
    ·exact Or.inr y⟩
end
theorem cutW {P:Program} {code:Code} {Q:Exit->Act->World->Prop} {a:Act} {w:World} (K:World->Prop) (h:K w) (k:∀ w',K w'->code.wp P Q a w'):code.wp P Q a w:=k w h
abbrev fw (n:Nat) (cs:Array Value × Array Value):Value:=.func (.func n) cs.1 cs.2
abbrev fv (n:Nat) (cs:Array Value):Value:=.func (.func n) #[] cs
def Tw {σ:Type} (T:σ->Nat->Prop) (w:World) (s:σ) (k:Nat):Prop:=T s k \/ ∃ cs fr,w.heap[k]? = some (.cells cs 62 fr)
structure RS {σ : Type} (m : C.Mem σ) (B : Nat) (nr nw : Nat) (cr cw : Array Value × Array Value) (I : World -> σ -> Prop) (T : σ -> Nat -> Prop) : Prop where
 lt:∀ {w s},I w s->∀ k,T s k->k < w.heap.size
 keep:∀ {w w' s},I w s->w.heap.size<=w'.heap.size->(∀ k,Tw T w s k->w'.heap[k]? = w.heap[k]?)->I w' s
 shapes:∀ {w s},I w s->shapesAt w
 gT:∀ {s},T s 1
 byte:∀ s a,0<=(m.rd s a).1/\(m.rd s a).1<=255
 frd:∀ s a,m.fuel s<=m.fuel (m.rd s a).2
 fwr:∀ s a b,m.fuel s<=m.fuel (m.wr s a b)+1
 big:∀ {w s},I w s->B<=w.heap.size
 read:∀ w s (a:Int),0<=a->a<=65535->I w s->Calls Tryz.prog 132 #[.agg #[fw nr cr,fw nw cw],.int .u16 a] w fun e w'=>e = .returned (.int .u8 (m.rd s a).1)/\I w' (m.rd s a).2/\Mv B (Tw T w s) (Tw T w' (m.rd s a).2) w w'
 write:∀ w s (a b:Int),0<=a->a<=65535->0<=b->b<=255->1<=m.fuel s->I w s->Calls Tryz.prog 216 #[.agg #[fw nr cr,fw nw cw],.int .u16 a,.int .u8 b] w fun e w'=>e = .returned (.tuple #[])/\I w' (m.wr s a b)/\Mv B (Tw T w s) (Tw T w' (m.wr s a b)) w w'
theorem Mv.weak {B:Nat} {T T' T'':Nat->Prop} {w w':World} (h:Mv B T T' w w') (hT:∀ k,T'' k->T' k \/ w.heap.size<=k):Mv B T T'' w w' :=
 ⟨h.below,h.block,fun k hk=>(hT k hk).elim (h.fresh k) Or.inr⟩
section
variable {σ : Type} {T : σ -> Nat -> Prop} {w w' : World} {s : σ} {k : Nat}
theorem Tw.same (e:w'.heap[k]? = w.heap[k]?) (h:Tw T w' s k):Tw T w s k:=h.imp id (fun ⟨cs,fr,x⟩=>⟨cs,fr,by rw [<- e];exact x⟩)
theorem Tw.of (h:¬ T s k) {cs:Array Value} {t:TypeId} {fr:Nat × Nat} (e:w.heap[k]? = some (.cells cs t fr)) (ht:t ≠ 62):¬ Tw T w s k:=fun hx=>hx.elim h (fun ⟨cs',fr',x⟩=>by
 rw [e] at x
 simp only [Option.some.injEq,Obj.cells.injEq] at x
 exact ht x.2.1)
theorem Tw.set {a:Addr} {v:Value} (h:Tw T (w.setCell a v) s k):Tw T w s k:=h.imp id (fun ⟨cs,fr,x⟩=>by
 simp only [World.setCell,Array.getElem?_modify] at x
 split at x
 ·revert x
  cases w.heap[k]? with
  | none=>intro x;cases x
  | some o =>
   cases o <;> intro x <;> simp at x <;> (obtain ⟨_,rfl,_⟩:=x;exact ⟨_,_,rfl⟩)
 ·exact ⟨cs,fr,x⟩)
theorem Tw.sets {b:Nat}:∀ {vs:List Value} {o:Nat} {w:World},Tw T (w.setCells b o vs) s k->Tw T w s k
 | [],o,w,h=>h
 | v :: vs,o,w,h=>Tw.set (Tw.sets (vs:=vs) h)
theorem Tw.low (hb:Below w.heap.size w w') (h:Tw T w' s k):Tw T w s k \/ w.heap.size<=k:=by
 rcases Nat.lt_or_ge k w.heap.size with hk | hk
 ·exact Or.inl (h.same (hb.block k hk))
 ·exact Or.inr hk
theorem Tw.lt (hl:∀ k,T s k->k < w.heap.size) (h:Tw T w s k):k < w.heap.size:=h.elim (hl k) (fun ⟨cs,fr,x⟩=>(Array.getElem?_eq_some_iff.1 x).1)
end
def cpuCells (c:C.Cpu):List Value:=c.R.map (Value.int .u16)++[.int .u16 c.PC,.bool c.Z,.bool c.N,.bool c.C,.bool c.V,.bool c.May,.bool c.Waits]
def pcells (c:C.Cpu) (fr fw:Value) (n:Int):Array Value:=(cpuCells c++[fr,fw,.int .i64 n]).toArray
abbrev cpuV (c:C.Cpu):Value:=.agg #[.int .u16 (c.r 0),.int .u16 (c.r 1),.int .u16 (c.r 2),.int .u16 (c.r 3),.int .u16 (c.r 4),.int .u16 (c.r 5),.int .u16 (c.r 6),.int .u16 (c.r 7),.int .u16 c.PC,.bool c.Z,.bool c.N,.bool c.C,.bool c.V,.bool c.May,.bool c.Waits]
theorem reg8 {l:List Int} (h:l.length=8):∃ a0 a1 a2 a3 a4 a5 a6 a7,l=[a0,a1,a2,a3,a4,a5,a6,a7]:=by
 match l,h with
 | [a0,a1,a2,a3,a4,a5,a6,a7],_=>exact ⟨a0,a1,a2,a3,a4,a5,a6,a7,rfl⟩
section
variable {σ : Type} {m : C.Mem σ} {B nr nw : Nat} {cr cw : Array Value × Array Value} {I : World -> σ -> Prop} {T : σ -> Nat -> Prop}
structure PI (B : Nat) (nr nw : Nat) (cr cw : Array Value × Array Value) (I : World -> σ -> Prop) (T : σ -> Nat -> Prop) (w : World) (p : Nat) (x : C.St σ) : Prop where
 inv:I w x.s
 own:¬ T x.s p
 big:B<=p
 blk:w.heap[p]? = some (.cells (pcells x.c (fw nr cr) (fw nw cw) x.n) 217 (0,0))
 ok:x.c.ok
def PM (B:Nat) (T:σ->Nat->Prop) (p:Nat) (s s':σ) (w w':World):Prop:=Mv B (fun k=>k=p \/ Tw T w s k) (fun k=>k=p \/ Tw T w' s' k) w w'
theorem PI.lt {w:World} {p:Nat} {x:C.St σ} (h:PI B nr nw cr cw I T w p x):p < w.heap.size:=(Array.getElem?_eq_some_iff.1 h.blk).1
theorem PI.ownW {w:World} {p:Nat} {x:C.St σ} (h:PI B nr nw cr cw I T w p x):¬ Tw T w x.s p:=Tw.of h.own h.blk (by decide)
theorem PI.frozen {w:World} {p:Nat} {x:C.St σ} (h:PI B nr nw cr cw I T w p x) (i:Nat):w.frozen? ⟨p,i,none⟩=false:=Lib.frozen_of_heap h.blk i
theorem pcells_at {c:C.Cpu} (hc:c.R.length=8) (fr fw:Value) (n:Int) :
 (∀ i:Nat,i < 8->(pcells c fr fw n)[i]? = some (.int .u16 (c.r i)))/\(pcells c fr fw n)[8]? = some (.int .u16 c.PC)/\(pcells c fr fw n)[9]? = some (.bool c.Z)/\(pcells c fr fw n)[10]? = some (.bool c.N)/\(pcells c fr fw n)[11]? = some (.bool c.C) /\
  (pcells c fr fw n)[12]? = some (.bool c.V)/\(pcells c fr fw n)[13]? = some (.bool c.May)/\(pcells c fr fw n)[14]? = some (.bool c.Waits)/\(pcells c fr fw n)[15]? = some fr/\(pcells c fr fw n)[16]? = some fw/\(pcells c fr fw n)[17]? = some (.int .i64 n):=by
 obtain ⟨a0,a1,a2,a3,a4,a5,a6,a7,h⟩:=reg8 hc
 unfold pcells cpuCells C.Cpu.r
 rw [h]
 refine ⟨fun i hi=>?_,rfl,rfl,rfl,rfl,rfl,rfl,rfl,rfl,rfl,rfl⟩
 have:i=0 \/ i=1 \/ i=2 \/ i=3 \/ i=4 \/ i=5 \/ i=6 \/ i=7:=by omega
 rcases this with rfl | rfl | rfl | rfl | rfl | rfl | rfl | rfl <;> rfl
theorem PI.reg {w:World} {p:Nat} {x:C.St σ} (h:PI B nr nw cr cw I T w p x) (i:Nat) (hi:i < 8):w.cell? ⟨p,i,none⟩=some (.int .u16 (x.c.r i)):=by
 rw [Lib.cell_of_heap h.blk i];exact (pcells_at h.ok.1 _ _ _).1 i hi
theorem PI.cells {w:World} {p:Nat} {x:C.St σ} (h:PI B nr nw cr cw I T w p x) :
 w.cell? ⟨p,8,none⟩=some (.int .u16 x.c.PC)/\w.cell? ⟨p,9,none⟩=some (.bool x.c.Z)/\w.cell? ⟨p,10,none⟩=some (.bool x.c.N)/\w.cell? ⟨p,11,none⟩=some (.bool x.c.C)/\w.cell? ⟨p,12,none⟩=some (.bool x.c.V) /\
  w.cell? ⟨p,13,none⟩=some (.bool x.c.May)/\w.cell? ⟨p,14,none⟩=some (.bool x.c.Waits)/\w.cell? ⟨p,15,none⟩=some (fw nr cr)/\w.cell? ⟨p,16,none⟩=some (fw nw cw)/\w.cell? ⟨p,17,none⟩=some (.int .i64 x.n):=by
 have e:=fun i=>Lib.cell_of_heap h.blk i
 obtain ⟨_,h8,h9,h10,h11,h12,h13,h14,h15,h16,h17⟩:=pcells_at h.ok.1 (fw nr cr) (fw nw cw) x.n
 exact ⟨(e 8).trans h8,(e 9).trans h9,(e 10).trans h10,(e 11).trans h11,(e 12).trans h12,(e 13).trans h13,(e 14).trans h14,(e 15).trans h15,(e 16).trans h16,(e 17).trans h17⟩
theorem PI.regs {w:World} {p:Nat} {x:C.St σ} (h:PI B nr nw cr cw I T w p x) :
 w.cell? ⟨p,0,none⟩=some (.int .u16 (x.c.r 0))/\w.cell? ⟨p,1,none⟩=some (.int .u16 (x.c.r 1))/\w.cell? ⟨p,2,none⟩=some (.int .u16 (x.c.r 2))/\w.cell? ⟨p,3,none⟩=some (.int .u16 (x.c.r 3)) /\
  w.cell? ⟨p,4,none⟩=some (.int .u16 (x.c.r 4))/\w.cell? ⟨p,5,none⟩=some (.int .u16 (x.c.r 5))/\w.cell? ⟨p,6,none⟩=some (.int .u16 (x.c.r 6))/\w.cell? ⟨p,7,none⟩=some (.int .u16 (x.c.r 7)) :=
 ⟨h.reg 0 (by omega),h.reg 1 (by omega),h.reg 2 (by omega),h.reg 3 (by omega),h.reg 4 (by omega),h.reg 5 (by omega),h.reg 6 (by omega),h.reg 7 (by omega)⟩
theorem setCell_blk {w:World} {b i:Nat} {cs:Array Value} {t:TypeId} {fr:Nat × Nat} (h:w.heap[b]? = some (.cells cs t fr)) (v:Value):(w.setCell ⟨b,i,none⟩ v).heap[b]? = some (.cells (cs.setIfInBounds i v) t fr):=by
 simp [World.setCell,Array.getElem?_modify,h]
theorem setCell_size (w:World) (a:Addr) (v:Value):(w.setCell a v).heap.size=w.heap.size:=by simp [World.setCell]
theorem PI.put (R:RS m B nr nw cr cw I T) {w:World} {p:Nat} {x:C.St σ} (h:PI B nr nw cr cw I T w p x) (i:Nat) (v:Value) (c':C.Cpu) (n':Int) (hok:c'.ok) (hc:(pcells x.c (fw nr cr) (fw nw cw) x.n).setIfInBounds i v=pcells c' (fw nr cr) (fw nw cw) n') :
 PI B nr nw cr cw I T (w.setCell ⟨p,i,none⟩ v) p ⟨c',x.s,n'⟩ :=
 ⟨R.keep h.inv (by rw [setCell_size];exact Nat.le_refl _) (fun k hk=>Below.heap_setCell _ _ _ _ (fun e=>h.ownW (by have e':k=p:=e;rw [<- e'];exact hk))),h.own,h.big,by rw [setCell_blk h.blk,hc],hok⟩
theorem pcells_reg {c:C.Cpu} (hc:c.R.length=8) (fr fw:Value) (n:Int) (i:Nat) (hi:i < 8) (x:Int):(pcells c fr fw n).setIfInBounds i (.int .u16 x)=pcells (c.set i x) fr fw n:=by
 obtain ⟨a0,a1,a2,a3,a4,a5,a6,a7,h⟩:=reg8 hc
 unfold pcells cpuCells C.Cpu.set
 rw [h]
 have:i=0 \/ i=1 \/ i=2 \/ i=3 \/ i=4 \/ i=5 \/ i=6 \/ i=7:=by omega
 rcases this with rfl | rfl | rfl | rfl | rfl | rfl | rfl | rfl <;> rfl
theorem pcells_set {c:C.Cpu} (hc:c.R.length=8) (fr fw:Value) (n:Int) :
 (∀ x,(pcells c fr fw n).setIfInBounds 8 (.int .u16 x)=pcells { c with PC:=x } fr fw n)/\(∀ x,(pcells c fr fw n).setIfInBounds 9 (.bool x)=pcells { c with Z:=x } fr fw n)/\(∀ x,(pcells c fr fw n).setIfInBounds 10 (.bool x)=pcells { c with N:=x } fr fw n) /\
 (∀ x,(pcells c fr fw n).setIfInBounds 11 (.bool x)=pcells { c with C:=x } fr fw n)/\(∀ x,(pcells c fr fw n).setIfInBounds 12 (.bool x)=pcells { c with V:=x } fr fw n)/\(∀ x,(pcells c fr fw n).setIfInBounds 13 (.bool x)=pcells { c with May:=x } fr fw n) /\
 (∀ x,(pcells c fr fw n).setIfInBounds 14 (.bool x)=pcells { c with Waits:=x } fr fw n)/\(∀ x,(pcells c fr fw n).setIfInBounds 17 (.int .i64 x)=pcells c fr fw x):=by
 obtain ⟨a0,a1,a2,a3,a4,a5,a6,a7,h⟩:=reg8 hc
 unfold pcells cpuCells
 rw [h]
 exact ⟨fun _=>rfl,fun _=>rfl,fun _=>rfl,fun _=>rfl,fun _=>rfl,fun _=>rfl,fun _=>rfl,fun _=>rfl⟩
variable {w : World} {p : Nat} {x : C.St σ}
theorem PI.putR (R:RS m B nr nw cr cw I T) (h:PI B nr nw cr cw I T w p x) (i:Nat) (hi:i < 8) (v:Int) (h0:0<=v) (h1:v<=65535):PI B nr nw cr cw I T (w.setCell ⟨p,i,none⟩ (.int .u16 v)) p ⟨x.c.set i v,x.s,x.n⟩ :=
 h.put R i _ _ _ (C.Cpu.ok_set h.ok _ _ h0 h1) (pcells_reg h.ok.1 _ _ _ i hi v)
theorem PI.putPC (R:RS m B nr nw cr cw I T) (h:PI B nr nw cr cw I T w p x) (v:Int) (h0:0<=v) (h1:v<=65535):PI B nr nw cr cw I T (w.setCell ⟨p,8,none⟩ (.int .u16 v)) p ⟨{ x.c with PC:=v },x.s,x.n⟩ :=
 h.put R 8 _ _ _ (C.Cpu.ok_pc h.ok v h0 h1) ((pcells_set h.ok.1 _ _ _).1 v)
theorem PI.putZ (R:RS m B nr nw cr cw I T) (h:PI B nr nw cr cw I T w p x) (v:Bool):PI B nr nw cr cw I T (w.setCell ⟨p,9,none⟩ (.bool v)) p ⟨{ x.c with Z:=v },x.s,x.n⟩:=h.put R 9 _ _ _ h.ok ((pcells_set h.ok.1 _ _ _).2.1 v)
theorem PI.putN (R:RS m B nr nw cr cw I T) (h:PI B nr nw cr cw I T w p x) (v:Bool):PI B nr nw cr cw I T (w.setCell ⟨p,10,none⟩ (.bool v)) p ⟨{ x.c with N:=v },x.s,x.n⟩:=h.put R 10 _ _ _ h.ok ((pcells_set h.ok.1 _ _ _).2.2.1 v)
theorem PI.putC (R:RS m B nr nw cr cw I T) (h:PI B nr nw cr cw I T w p x) (v:Bool):PI B nr nw cr cw I T (w.setCell ⟨p,11,none⟩ (.bool v)) p ⟨{ x.c with C:=v },x.s,x.n⟩:=h.put R 11 _ _ _ h.ok ((pcells_set h.ok.1 _ _ _).2.2.2.1 v)
theorem PI.putV (R:RS m B nr nw cr cw I T) (h:PI B nr nw cr cw I T w p x) (v:Bool):PI B nr nw cr cw I T (w.setCell ⟨p,12,none⟩ (.bool v)) p ⟨{ x.c with V:=v },x.s,x.n⟩:=h.put R 12 _ _ _ h.ok ((pcells_set h.ok.1 _ _ _).2.2.2.2.1 v)
theorem PI.putMay (R:RS m B nr nw cr cw I T) (h:PI B nr nw cr cw I T w p x) (v:Bool):PI B nr nw cr cw I T (w.setCell ⟨p,13,none⟩ (.bool v)) p ⟨{ x.c with May:=v },x.s,x.n⟩:=h.put R 13 _ _ _ h.ok ((pcells_set h.ok.1 _ _ _).2.2.2.2.2.1 v)
theorem PI.putWaits (R:RS m B nr nw cr cw I T) (h:PI B nr nw cr cw I T w p x) (v:Bool):PI B nr nw cr cw I T (w.setCell ⟨p,14,none⟩ (.bool v)) p ⟨{ x.c with Waits:=v },x.s,x.n⟩:=h.put R 14 _ _ _ h.ok ((pcells_set h.ok.1 _ _ _).2.2.2.2.2.2.1 v)
theorem PI.putCyc (R:RS m B nr nw cr cw I T) (h:PI B nr nw cr cw I T w p x) (v:Int):PI B nr nw cr cw I T (w.setCell ⟨p,17,none⟩ (.int .i64 v)) p ⟨x.c,x.s,v⟩:=h.put R 17 _ _ _ h.ok ((pcells_set h.ok.1 _ _ _).2.2.2.2.2.2.2 v)
theorem PI.kept (R:RS m B nr nw cr cw I T) (h:PI B nr nw cr cw I T w p x) {w':World} (hb:Below w.heap.size w w'):PI B nr nw cr cw I T w' p x :=
 ⟨R.keep h.inv hb.size (fun k hk=>hb.block k (hk.lt (R.lt h.inv))),h.own,h.big,(hb.block p h.lt).trans h.blk,h.ok⟩
theorem PI.moved (h:PI B nr nw cr cw I T w p x) {w':World} {s':σ} (hI:I w' s') (hm:Mv B (Tw T w x.s) (Tw T w' s') w w'):PI B nr nw cr cw I T w' p ⟨x.c,s',x.n⟩ :=
 ⟨hI,fun ht=>by rcases hm.fresh p (Or.inl ht) with y | y;exact h.ownW y;have:=h.lt;omega,h.big,(hm.block p h.lt h.ownW).trans h.blk,h.ok⟩
theorem PI.same (R:RS m B nr nw cr cw I T) (h:PI B nr nw cr cw I T w p x) {w':World} (e:w'.heap=w.heap):PI B nr nw cr cw I T w' p x :=
 ⟨R.keep h.inv (by rw [e];exact Nat.le_refl _) (fun k _=>by rw [e]),h.own,h.big,by rw [e];exact h.blk,h.ok⟩
theorem PI.movedS (R:RS m B nr nw cr cw I T) (h:PI B nr nw cr cw I T w p x) {w0 w1:World} {s':σ} (hI:I w1 s') (hm:Mv B (Tw T w0 x.s) (Tw T w1 s') w0 w1) (e:w0.heap=w.heap):PI B nr nw cr cw I T w1 p ⟨x.c,s',x.n⟩:=(h.same R e).moved hI hm
theorem PI.invS (R:RS m B nr nw cr cw I T) (h:PI B nr nw cr cw I T w p x) {w':World} (e:w'.heap=w.heap):I w' x.s:=(h.same R e).inv
theorem PI.after (h:PI B nr nw cr cw I T w p x) {w0 w1:World} {T':Nat->Prop} (hm:Mv B (Tw T w0 x.s) T' w0 w1) (e:w0.heap=w.heap):(∀ i,w1.cell? ⟨p,i,none⟩=w.cell? ⟨p,i,none⟩)/\(∀ i,w1.frozen? ⟨p,i,none⟩=false)/\p < w1.heap.size:=by
 have hb:w1.heap[p]? = w.heap[p]?:=by rw [hm.block p (by rw [e];exact h.lt) (fun y=>h.ownW (y.same (by rw [e]))),e]
 exact ⟨fun i=>World.cell?_of_block (w:=w) hb,fun i=>Lib.frozen_of_heap (hb.trans h.blk) i,Nat.lt_of_lt_of_le (by rw [e];exact h.lt) hm.size⟩
theorem PI.hB (R:RS m B nr nw cr cw I T) (h:PI B nr nw cr cw I T w p x):B<=w.heap.size:=R.big h.inv
theorem PM.refl (B:Nat) (T:σ->Nat->Prop) (p:Nat) (s:σ) (w:World):PM B T p s s w w:=Mv.refl _ _ _
theorem PM.set {s s':σ} {w w':World} (h:PM B T p s s' w w') (hB:B<=p) (i:Nat) (v:Value):PM B T p s s' w (w'.setCell ⟨p,i,none⟩ v):=(Mv.setCell h hB (Or.inl (Or.inl rfl)) v).weak (fun k hk=>Or.inl (hk.imp id Tw.set))
theorem PM.trans {s s' s'':σ} {a b c:World} (h:PM B T p s s' a b) (k:PM B T p s' s'' b c):PM B T p s s'' a c:=Mv.trans h k
theorem PM.moved {s s' s'':σ} {a b c:World} (h:PM B T p s s' a b) (k:Mv B (Tw T b s') (Tw T c s'') b c):PM B T p s s'' a c:=Mv.trans h (k.also p)
theorem PM.kept {s s':σ} {a b c:World} (h:PM B T p s s' a b) (hB:B<=b.heap.size) (k:Below b.heap.size b c):PM B T p s s' a c:=(Mv.trans h (Mv.of_below hB k)).weak (fun i hi=>hi.elim (fun e=>Or.inl (Or.inl e)) (fun y=>(y.low k).elim (fun z=>Or.inl (Or.inr z)) (fun z=>Or.inr (Nat.le_trans (Mv.size h) z))))
theorem PM.drew {s s':σ} {w w':World} (h:PM B T p s s' w w'):PM B T p s s' w w'.drew:=Mv.drew h
theorem PM.alloc {s s':σ} {w w':World} (h:PM B T p s s' w w') (hB:B<=w.heap.size) (o:Obj):PM B T p s s' w (w'.alloc o):=(Mv.alloc h hB o).weak (fun i hi=>hi.elim (fun e=>Or.inl (Or.inl e)) (fun y=>(y.low (stA (st0 w') o)).elim (fun z=>Or.inl (Or.inr z)) (fun z=>Or.inr (Nat.le_trans (Mv.size h) z))))
theorem PM.cell {s s':σ} {w w':World} (h:PM B T p s s' w w') {k:Nat} (hk:k < w.heap.size) (hp:k ≠ p) (ht:¬ Tw T w s k) (o:Nat):w'.cell? ⟨k,o,none⟩=w.cell? ⟨k,o,none⟩:=Mv.cell h hk (fun e=>e.elim hp ht) o
theorem PM.froz {s s':σ} {w w':World} (h:PM B T p s s' w w') {k:Nat} (hk:k < w.heap.size) (hp:k ≠ p) (ht:¬ Tw T w s k) (o:Nat):w'.frozen? ⟨k,o,none⟩=w.frozen? ⟨k,o,none⟩:=Mv.froz h hk (fun e=>e.elim hp ht) o
end
theorem ret_i {k:IntKind} {a a':Int} (h:a=a'):Ending.returned (.int k a) = .returned (.int k a'):=by rw [h]
theorem ret_ib {k:IntKind} {a a':Int} {b b':Bool} (h:a=a') (h1:b=b'):Ending.returned (.tuple #[.int k a,.bool b]) = .returned (.tuple #[.int k a',.bool b']):=by rw [h,h1]
theorem ret_ibb {k:IntKind} {a a':Int} {b b' c c':Bool} (h:a=a') (h1:b=b') (h2:c=c'):Ending.returned (.tuple #[.int k a,.bool b,.bool c]) = .returned (.tuple #[.int k a',.bool b',.bool c']):=by rw [h,h1,h2]
theorem ret_ibi {k l:IntKind} {a a' c c':Int} {b b':Bool} (h:a=a') (h1:b=b') (h2:c=c'):Ending.returned (.tuple #[.int k a,.bool b,.int l c]) = .returned (.tuple #[.int k a',.bool b',.int l c']):=by rw [h,h1,h2]
theorem add_any (a b:Int) (w:World) (ha:0<=a) (ha':a<=65535) (hb:0<=b) (hb':b<=65535) :
 Calls Tryz.prog 282 #[.int .u16 a,.int .u16 b] w fun e w'=>e = .returned (.tuple #[.int .u16 (M.addN a b),.bool (M.addC a b),.bool (M.addV a b)])/\w'=w:=by
 go_enter Tryz.func282,Tryz.ntmps282
 go_wp2
 go_ret3
 exact ⟨ret_ibb (IntKind.wrap_u16 _) (M.carry_add a b ha ha' hb hb') (M.over_add a b ha ha' hb hb'),rfl⟩
theorem sub_any (a b:Int) (w:World) (ha:0<=a) (ha':a<=65535) (hb:0<=b) (hb':b<=65535) :
 Calls Tryz.prog 283 #[.int .u16 a,.int .u16 b] w fun e w'=>e = .returned (.tuple #[.int .u16 (M.subN a b),.bool (M.subC a b),.bool (M.subV a b)])/\w'=w:=by
 go_enter Tryz.func283,Tryz.ntmps283
 go_wp2
 go_ret3
 exact ⟨ret_ibb (IntKind.wrap_u16 _) rfl (M.over_sub a b ha ha' hb hb'),rfl⟩
theorem mul_any (a b:Int) (w:World) (ha:0<=a) (ha':a<=65535) (hb:0<=b) (hb':b<=65535) :
 Calls Tryz.prog 289 #[.int .u16 a,.int .u16 b] w fun e w'=>e = .returned (.tuple #[.int .u16 (M.mulN a b),.bool (M.mulC a b)])/\w'=w:=by
 have hm:=M.mul_bd a b ha ha' hb hb'
 go_enter Tryz.func289,Tryz.ntmps289
 go_wp2
 go_ret2
 exact ⟨ret_ib (IntKind.wrap_u16 _) (M.mul_high _ hm.1),rfl⟩
end Go.Proofs.YtbhpfkjfijdmaaaGreatDoor
