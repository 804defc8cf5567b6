/-
  Parts of a proof, joined.
-/
import Derived.Test.YthghjlinhokimaaGreatDoorZcA
import Derived.Maps.OwnOps
import Derived.Shelf.Strings.OnBuilder
import Derived.Shelf.Small.Wraps
import Derived.Shelf.Strconv.Itoa3
import Derived.Shelf.Strconv.AtoiAll
import Derived.Shelf.Strings.Cut
import Derived.Shelf.Strings.Split
import Derived.Test.YthghjlinhokimaaGreatDoorProg
set_option linter.all false
set_option maxRecDepth 100000
namespace Go.Proofs.YthghjlinhokimaaGreatDoor
open Go.ChangeShapes Go.WideShapes Go.ChangeAt Go.RowKit Go.Proofs.Tryz
def j9(w:World)(b:Nat)(l:List (Int × Value)):Prop :=
 ∃ es clock,w.heap[b]?=some (.map es clock)/\es.toList.map (λe=>(e.key,e.val))=l.map (λp=>(Value.int .i64 p.1,p.2))
theorem zlK(op:Int):∀(es:List MapEntry) (l:List (Int × Value)),es.map (λe=>(e.key,e.val))=l.map (λp=>(Value.int .i64 p.1,p.2))->∀ i:Nat,
 ∃ r,Instr.findNow (.int .i64) (.int .i64 op) es i=some r/\r.map (·.2)=(l.find? (λp=>p.1 == op)).map (·.2)
 | [],[],_,i=>⟨none,U,U⟩
 | [],_::_,h,_=>by cases h
 | _::_,[],h,_=>by cases h
 | e::es,p::l,h,i=>by
  simp only[bP,cN,dD] at h;obtain⟨⟨b,d⟩,h⟩:=h;by_cases c:p.1=op
  ·refine⟨some (i,e.val),?_,?_⟩
   ·simp[Instr.findNow,b,Instr.sameNow,c]
   ·simp[c,d]
  ·obtain⟨r,h1,h2⟩:=zlK op es l h (i+1)
   refine⟨r,?_,?_⟩
   ·have a:(op == p.1)=false:=by simp;omega
    simp[Instr.findNow,b,Instr.sameNow,a,h1]
   ·have a:(p.1 == op)=false:=by simp;omega
    rw[h2,jx,a]
theorem zoy(w:World):j9 (w.alloc (.map #[] 0)) w.heap.size []:=⟨#[],0,(fR w _).1,U⟩
theorem j9.lt{w:World}{b:Nat}{l:List (Int × Value)}(h:j9 w b l):b<w.heap.size:=by
 obtain⟨es,c,hb,_⟩:=h;exact(ay.1 hb).1
theorem j9.alloc{w:World}{b:Nat}{l:List (Int × Value)}(h:j9 w b l)(o:Obj):j9 (w.alloc o) b l:=by
 have a:=h.lt;obtain⟨es,c,hb,d⟩:=h;exact⟨es,c,by rw[(fR w o).2 b a];exact hb,d⟩
structure Stored (w w' : World) (b : Nat) : Prop where
 size:w'.heap.size=w.heap.size
 cell:∀ p v,w.cell? p=some v->w'.cell? p=some v
 grown:∀ W,Below W.heap.size W w->W.heap.size<=b->Below W.heap.size W w'
theorem zcM{w:World}{b:Nat}{es:Array MapEntry}{clock:Nat}(hb:w.heap[b]?=some (.map es clock))(c:Array MapEntry)(a:Nat):Stored w { w with heap:=w.heap.setIfInBounds b (.map c a) } b:=by
 have f:=dE (o':=.map c a) hb;refine⟨by simp,λp v hp=>?_,λW g h=>g.trans ⟨U,U,U,by simp,λk i=>f.2 k (by omega)⟩⟩
 ·have d:p.block≠b:=by
   intro e;simp[World.cell?,e,hb] at hp
  simp only[World.cell?] at hp ⊢;rw[f.2 _ d];exact hp
theorem zoz{P:Program}{t k e:TypeId}(f:P.underlying t=some (.map k e))(a:P.underlying k=some (.int .i64)){w:World}{b:Nat}{l:List (Int × Value)}(h:j9 w b l)(x:Int)(v:Value)
 (g:l.find? (λp=>p.1 == x)=none):∃ w',(Instr.mapUpdate t (.map (some b)) (.int .i64 x) v).run P w=.ok () w'/\j9 w' b (l++[(x,v)])/\Stored w w' b:=by
 obtain⟨es,c,hb,d⟩:=h;obtain⟨r,h1,h2⟩:=zlK x es.toList l d 0;have i:r=none:=by
  cases r with
  | none=>rfl
  | some q=>simp[g] at h2
 subst i;have hc:(Instr.checkKey false 10000 k (.int .i64 x)).run P w=.ok () w:=cz (k:=.int .i64 x) a (by simp[MapKept.IsKey]) false 9999;refine⟨{ w with heap:=w.heap.setIfInBounds b (.map (es.push { key:=.int .i64 x,val:=v,born:=c }) (c+1)) },?_,?_,zcM hb _ _⟩
 ·simp[Instr.mapUpdate,bT f,bN hb,hc,bU a h1,eE _ hb,Result.andThen]
 ·exact⟨_,_,(dE hb).1,by simp[d]⟩
theorem qh{P:Program}(w:World){ops:Array Oper}{rest:List Oper}{o:Oper}{a:Act}{aj:Exit->Act->World->Prop}
 (g:o.guard=none) (m x v:Operand) (t:TypeId) (d:o.op=Op.insert t m x v) (k e:TypeId) (i:P.underlying t=some (.map k e)) (j:P.underlying k=some (.int .i64))
 (b:Nat) (l:List (Int × Value)) (n:a.eval m=.map (some b)) (h:j9 w b l) (key:Int) (val:Value) (q:a.eval x=.int .i64 key) (r:a.eval v=val) (s:l.find? (λp=>p.1 == key)=none)
 (u:∀ w',j9 w' b (l++[(key,val)])->Stored w w' b->wpList P ops aj rest (a.put o.dst undef) w'):wpList P ops aj (o::rest) a w:=by
 refine dS g λy f=>?_
 obtain⟨w',c,r1,r2⟩:=zoz i j h key val s;unfold Oper.wp;simp[execOp,d,n,q,r,c,Result.andThen];exact f _ _ (u w' r1 r2)
theorem qi{P:Program}{t k e:TypeId}(f:P.underlying t=some (.map k e))(a:P.underlying k=some (.int .i64)){w:World}{b:Nat}{l:List (Int × Value)}(h:j9 w b l)(x:Int)(z:Value)
 (j:(zeroValue e).run P w=.ok z w):(Instr.lookup t (.map (some b)) (.int .i64 x) true).run P w =
  .ok (.tuple #[((l.find? (λp=>p.1 == x)).map (·.2)).getD z,.bool (l.find? (λp=>p.1 == x)).isSome]) w:=by
 obtain⟨es,c,hb,m⟩:=h;obtain⟨r,h1,h2⟩:=zlK x es.toList l m 0;have hc:∀ d,(Instr.checkKey d 10000 k (.int .i64 x)).run P w=.ok () w:=λd=>cz (k:=.int .i64 x) a (by simp[MapKept.IsKey]) d 9999
 cases r with
 | none =>
  have n:l.find? (λp=>p.1 == x)=none:=by simpa using h2.symm
  rw[n];simp[Instr.lookup,bT f,bN hb,hc,bU a h1,j,Result.andThen]
 | some q =>
  obtain⟨i,v⟩:=q;cases g:l.find? (λp=>p.1 == x) with
  | none=>simp[g] at h2
  | some y =>
   simp[g] at h2;simp[Instr.lookup,bT f,bN hb,hc,bU a h1,Result.andThen,h2]
end Go.Proofs.YthghjlinhokimaaGreatDoor
namespace Go.Proofs
open Go.Shelf
def Tryz.laysM171_ren:Go.Shelf.Ren:=⟨fun|171=>104|243=>177|246=>238|283=>276|284=>277|285=>278|286=>279|129=>341|317=>340|318=>342|319=>343|320=>344|337=>367|338=>368|n=>n,fun|3=>3|9=>9|2=>2|4=>4|171=>349|0=>0|53=>350|37=>26|5=>5|173=>353|212=>397|51=>346|20=>20|213=>398|46=>304|232=>436|233=>437|n=>n,fun|17=>6|18=>9|19=>10|n=>n⟩
theorem Tryz.laysM171:Go.Proofs.LaysM.n171 prog Tryz.laysM171_ren:={
 mixed:=by kernel_rfl
 f129:=Tryz.func341.trans (congrArg some (by kernel_rfl))
 f171:=Tryz.func104.trans (congrArg some (by kernel_rfl))
 f243:=Tryz.func177.trans (congrArg some (by kernel_rfl))
 f246:=Tryz.func238.trans (congrArg some (by kernel_rfl))
 f283:=Tryz.func276.trans (congrArg some (by kernel_rfl))
 f284:=Tryz.func277.trans (congrArg some (by kernel_rfl))
 f285:=Tryz.func278.trans (congrArg some (by kernel_rfl))
 f286:=Tryz.func279.trans (congrArg some (by kernel_rfl))
 f317:=Tryz.func340.trans (congrArg some (by kernel_rfl))
 f318:=Tryz.func342.trans (congrArg some (by kernel_rfl))
 f319:=Tryz.func343.trans (congrArg some (by kernel_rfl))
 f320:=Tryz.func344.trans (congrArg some (by kernel_rfl))
 f337:=Tryz.func367.trans (congrArg some (by kernel_rfl))
 f338:=Tryz.func368.trans (congrArg some (by kernel_rfl))
 t0:=underlying0
 a0:=isAgg0
 z0:=sizeOf0
 v0:=zeroValue0
 t2:=underlying2
 a2:=isAgg2
 z2:=sizeOf2
 v2:=zeroValue2
 t3:=underlying3
 a3:=isAgg3
 z3:=sizeOf3
 v3:=zeroValue3
 t4:=underlying4
 a4:=isAgg4
 z4:=sizeOf4
 v4:=zeroValue4
 t5:=underlying5
 a5:=isAgg5
 z5:=sizeOf5
 v5:=zeroValue5
 t9:=underlying9
 a9:=isAgg9
 z9:=sizeOf9
 v9:=zeroValue9
 t20:=underlying20
 a20:=isAgg20
 z20:=sizeOf20
 v20:=zeroValue20
 t37:=underlying26
 a37:=isAgg26
 z37:=sizeOf26
 v37:=zeroValue26
 t46:=underlying304
 a46:=isAgg304
 z46:=sizeOf304
 v46:=zeroValue304
 t51:=underlying346
 a51:=isAgg346
 z51:=sizeOf346
 v51:=zeroValue346
 t53:=underlying350
 a53:=isAgg350
 z53:=sizeOf350
 v53:=zeroValue350
 t171:=underlying349
 a171:=isAgg349
 z171:=sizeOf349
 v171:=zeroValue349
 t173:=underlying353
 a173:=isAgg353
 z173:=sizeOf353
 v173:=zeroValue353
 t212:=underlying397
 a212:=isAgg397
 z212:=sizeOf397
 v212:=zeroValue397
 t213:=underlying398
 a213:=isAgg398
 z213:=sizeOf398
 t232:=underlying436
 a232:=isAgg436
 z232:=sizeOf436
 v232:=zeroValue436
 t233:=underlying437
 a233:=isAgg437
 z233:=sizeOf437
 v233:=zeroValue437
 g17:=by kernel_rfl
 g18:=by kernel_rfl
 g19:=by kernel_rfl
 i0:=by kernel_rfl
 i2:=by kernel_rfl
 i3:=by kernel_rfl
 i4:=by kernel_rfl
 i5:=by kernel_rfl
 i9:=by kernel_rfl
 i20:=by kernel_rfl
 i37:=by kernel_rfl
 i46:=by kernel_rfl
 i51:=by kernel_rfl
 i53:=by kernel_rfl
 i171:=by kernel_rfl
 i173:=by kernel_rfl
 i212:=by kernel_rfl
 i232:=by kernel_rfl
 i233:=by kernel_rfl
 m17:=by kernel_rfl
 m18:=by kernel_rfl
 m19:=by kernel_rfl }
open Go.RowKit Go.Sort Go.Lib in
theorem Tryz.strconv_Itoa(n:Int)(b:-9223372036854775808<=n)(h1:n<=9223372036854775807)(w:World)(a:Lib.TabIs prog w "internal/strconv.uint64pow10" .u64 Lib.pow10Tab):Calls prog 104 #[.int .i64 n] w λe w'=>e=.returned (.string ⟨(Lib.itoa n).toArray⟩) /\ ∃ k os,w'=grow (w.drewN k) os:=Any.strconv_Itoa Tryz.laysM171 n b h1 w a
def Tryz.lays145_ren:Go.Shelf.Ren:=⟨fun|145=>53|220=>100|219=>175|217=>234|225=>235|224=>236|267=>237|266=>274|314=>275|n=>n,fun|9=>9|4=>4|59=>127|3=>3|5=>5|46=>304|146=>347|51=>346|n=>n,fun|1=>0|n=>n⟩
theorem Tryz.lays145:Go.Proofs.Lays.n145 prog Tryz.lays145_ren:={
 mixed:=by kernel_rfl
 f145:=Tryz.func53.trans (congrArg some (by kernel_rfl))
 f217:=Tryz.func234.trans (congrArg some (by kernel_rfl))
 f219:=Tryz.func175.trans (congrArg some (by kernel_rfl))
 f220:=Tryz.func100.trans (congrArg some (by kernel_rfl))
 f224:=Tryz.func236.trans (congrArg some (by kernel_rfl))
 f225:=Tryz.func235.trans (congrArg some (by kernel_rfl))
 f266:=Tryz.func274.trans (congrArg some (by kernel_rfl))
 f267:=Tryz.func237.trans (congrArg some (by kernel_rfl))
 f314:=Tryz.func275.trans (congrArg some (by kernel_rfl))
 t3:=underlying3
 a3:=isAgg3
 z3:=sizeOf3
 v3:=zeroValue3
 t4:=underlying4
 a4:=isAgg4
 z4:=sizeOf4
 v4:=zeroValue4
 t5:=underlying5
 a5:=isAgg5
 z5:=sizeOf5
 v5:=zeroValue5
 t9:=underlying9
 a9:=isAgg9
 z9:=sizeOf9
 v9:=zeroValue9
 t46:=underlying304
 a46:=isAgg304
 z46:=sizeOf304
 v46:=zeroValue304
 t51:=underlying346
 a51:=isAgg346
 z51:=sizeOf346
 v51:=zeroValue346
 t59:=underlying127
 a59:=isAgg127
 z59:=sizeOf127
 v59:=zeroValue127
 t146:=underlying347
 a146:=isAgg347
 z146:=sizeOf347
 v146:=zeroValue347
 g1:=by kernel_rfl }
open Go.RowKit Go.Lib in
theorem Tryz.strings_Cut(s a:ByteArray)(m:Int)(w:World)(b:s.size<4294967281)(c:w.cell? ⟨0,0,none⟩=some (.int .i64 m)):Calls prog 53 #[.string s,.string a] w λe w'=>e=.returned (.tuple #[.string ⟨(Lib.cut s.data.toList a.data.toList).1.toArray⟩,.string ⟨(Lib.cut s.data.toList a.data.toList).2.1.toArray⟩,.bool (Lib.cut s.data.toList a.data.toList).2.2]) /\ ∃ n,w'=w.drewN n:=Any.strings_Cut Tryz.lays145 s a m w b c
def Tryz.lays146_ren:Go.Shelf.Ren:=⟨fun|146=>169|221=>228|268=>266|138=>66|143=>126|195=>124|197=>334|218=>125|219=>175|260=>364|217=>234|225=>235|224=>236|267=>237|266=>274|314=>275|n=>n,fun|9=>9|31=>251|3=>3|4=>4|0=>0|105=>387|21=>21|5=>5|46=>304|119=>335|139=>434|138=>433|146=>347|51=>346|n=>n,fun|1=>0|3=>7|4=>8|n=>n⟩
theorem Tryz.lays146:Go.Proofs.Lays.n146 prog Tryz.lays146_ren:={
 mixed:=by kernel_rfl
 f138:=Tryz.func66.trans (congrArg some (by kernel_rfl))
 f143:=Tryz.func126.trans (congrArg some (by kernel_rfl))
 f146:=Tryz.func169.trans (congrArg some (by kernel_rfl))
 f195:=Tryz.func124.trans (congrArg some (by kernel_rfl))
 f197:=Tryz.func334.trans (congrArg some (by kernel_rfl))
 f217:=Tryz.func234.trans (congrArg some (by kernel_rfl))
 f218:=Tryz.func125.trans (congrArg some (by kernel_rfl))
 f219:=Tryz.func175.trans (congrArg some (by kernel_rfl))
 f221:=Tryz.func228.trans (congrArg some (by kernel_rfl))
 f224:=Tryz.func236.trans (congrArg some (by kernel_rfl))
 f225:=Tryz.func235.trans (congrArg some (by kernel_rfl))
 f260:=Tryz.func364.trans (congrArg some (by kernel_rfl))
 f266:=Tryz.func274.trans (congrArg some (by kernel_rfl))
 f267:=Tryz.func237.trans (congrArg some (by kernel_rfl))
 f268:=Tryz.func266.trans (congrArg some (by kernel_rfl))
 f314:=Tryz.func275.trans (congrArg some (by kernel_rfl))
 t0:=underlying0
 a0:=isAgg0
 z0:=sizeOf0
 v0:=zeroValue0
 t3:=underlying3
 a3:=isAgg3
 z3:=sizeOf3
 v3:=zeroValue3
 t4:=underlying4
 a4:=isAgg4
 z4:=sizeOf4
 v4:=zeroValue4
 t5:=underlying5
 a5:=isAgg5
 z5:=sizeOf5
 v5:=zeroValue5
 t9:=underlying9
 a9:=isAgg9
 z9:=sizeOf9
 v9:=zeroValue9
 t21:=underlying21
 a21:=isAgg21
 z21:=sizeOf21
 v21:=zeroValue21
 t31:=underlying251
 a31:=isAgg251
 z31:=sizeOf251
 v31:=zeroValue251
 t46:=underlying304
 a46:=isAgg304
 z46:=sizeOf304
 v46:=zeroValue304
 t51:=underlying346
 a51:=isAgg346
 z51:=sizeOf346
 v51:=zeroValue346
 t105:=underlying387
 a105:=isAgg387
 z105:=sizeOf387
 v105:=zeroValue387
 t119:=underlying335
 a119:=isAgg335
 z119:=sizeOf335
 t138:=underlying433
 a138:=isAgg433
 z138:=sizeOf433
 v138:=zeroValue433
 t139:=underlying434
 a139:=isAgg434
 z139:=sizeOf434
 v139:=zeroValue434
 t146:=underlying347
 a146:=isAgg347
 z146:=sizeOf347
 v146:=zeroValue347
 g1:=by kernel_rfl
 g3:=by kernel_rfl
 g4:=by kernel_rfl }
open Go.RowKit Go.Lib in
theorem Tryz.strings_Split(s a:ByteArray)(m:Int)(w:World)(b:s.size<4294967281)(c:w.cell? ⟨0,0,none⟩=some (.int .i64 m))(h1:1<=a.size):Calls prog 169 #[.string s,.string a] w λe w' =>
  e=.returned (.slice (some ⟨w.heap.size,0,none⟩) (Lib.countB s a+1) (Lib.countB s a+1))/\w'=w.alloc (.cells ((Lib.splitB a 0 (Lib.countB s a) s).map Value.string).toArray 9):=Any.strings_Split Tryz.lays146 (by kernel_rfl) s a m w b c h1
end Go.Proofs
namespace Go.Proofs.YthghjlinhokimaaGreatDoor
open Go.ChangeShapes Go.WideShapes Go.ChangeAt Go.RowKit Go.Proofs.Tryz
def nt(w:World)(b:Nat)(v:Value):Prop:=∃ n c,w.heap[b]?=some (.map #[{ key:=.bool true,val:=v,born:=n }] c)
theorem zlX{P:Program}{t k e:TypeId}(d:P.underlying t=some (.map k e))(a:P.underlying k=some .bool){w:World}{b c:Nat}(hb:w.heap[b]?=some (.map #[] c))(v:Value):∃ w',(Instr.mapUpdate t (.map (some b)) (.bool true) v).run P w=.ok () w'/\nt w' b v/\Stored w w' b:=by
 have hc:(Instr.checkKey false 10000 k (.bool true)).run P w=.ok () w:=cz (k:=.bool true) a (by simp[MapKept.IsKey]) false 9999;have h1:Instr.findNow .bool (.bool true) (#[]:Array MapEntry).toList 0=some none:=U;refine⟨{ w with heap:=w.heap.setIfInBounds b (.map ((#[]:Array MapEntry).push { key:=.bool true,val:=v,born:=c }) (c+1)) },?_,?_,zcM hb _ _⟩
 ·simp[Instr.mapUpdate,bT d,bN hb,hc,bU a h1,eE _ hb,Result.andThen]
 ·exact⟨_,_,(dE hb).1⟩
theorem zdt{P:Program}(w:World){ops:Array Oper}{rest:List Oper}{o:Oper}{a:Act}{aj:Exit->Act->World->Prop}
 (h:o.guard=none) (m x v:Operand) (t:TypeId) (f:o.op=Op.insert t m x v) (k e:TypeId) (i:P.underlying t=some (.map k e)) (j:P.underlying k=some .bool)
 (b c:Nat) (l:a.eval m=.map (some b)) (hb:w.heap[b]?=some (.map #[] c)) (val:Value) (n:a.eval x=.bool true) (p:a.eval v=val)
 (q:∀ w',nt w' b val->Stored w w' b->wpList P ops aj rest (a.put o.dst undef) w'):wpList P ops aj (o::rest) a w:=by
 refine dS h λr g=>?_
 obtain⟨w',d,r1,r2⟩:=zlX i j hb val;unfold Oper.wp;simp[execOp,f,l,n,p,d,Result.andThen];exact g _ _ (q w' r1 r2)
def oS(x:Bool)(v z:Value):Value:=if x then v else z
theorem zcB{P:Program}{t k e:TypeId}(f:P.underlying t=some (.map k e))(a:P.underlying k=some .bool){w:World}{b:Nat}{v:Value}(h:nt w b v)(x:Bool)(z:Value)
 (g:(zeroValue e).run P w=.ok z w):(Instr.lookup t (.map (some b)) (.bool x) false).run P w=.ok (oS x v z) w:=by
 obtain⟨n,c,hb⟩:=h;have hc:∀ d,(Instr.checkKey d 10000 k (.bool x)).run P w=.ok () w:=λd=>cz (k:=.bool x) a (by simp[MapKept.IsKey]) d 9999
 cases x
 ·have h1:Instr.findNow .bool (.bool false) (#[{ key:=.bool true,val:=v,born:=n }]:Array MapEntry).toList 0=some none:=U
  simp[Instr.lookup,bT f,bN hb,hc,bU a h1,g,Result.andThen,oS]
 ·have h1:Instr.findNow .bool (.bool true) (#[{ key:=.bool true,val:=v,born:=n }]:Array MapEntry).toList 0=some (some (0,v)):=U
  simp[Instr.lookup,bT f,bN hb,hc,bU a h1,Result.andThen,oS]
def nh(w:World)(b:Nat)(l:List (ByteArray × Bool)):Prop :=
 ∃ es clock,w.heap[b]?=some (.map es clock)/\es.toList.map (λe=>(e.key,e.val))=l.map (λp=>(Value.string p.1,Value.bool p.2))
theorem nK(a b:ByteArray):(a == b)=decide (a=b):=by
 cases h:(a == b)
 ·rw[mq,cR];intro e;rw[(gj a b).2 e] at h;cases h
 ·rw[mq,bC];exact(gj a b).1 h
theorem zru(op:ByteArray):∀(es:List MapEntry) (l:List (ByteArray × Bool)),es.map (λe=>(e.key,e.val))=l.map (λp=>(Value.string p.1,Value.bool p.2))->∀ i:Nat,
 ∃ r,Instr.findNow .string (.string op) es i=some r/\r.map (·.2)=(l.find? (λp=>p.1 == op)).map (λp=>Value.bool p.2)
 | [],[],_,i=>⟨none,U,U⟩
 | [],_::_,h,_=>by cases h
 | _::_,[],h,_=>by cases h
 | e::es,p::l,h,i=>by
  simp only[bP,cN,dD] at h;obtain⟨⟨b,d⟩,h⟩:=h;by_cases c:p.1=op
  ·refine⟨some (i,e.val),?_,?_⟩
   ·simp[Instr.findNow,b,Instr.sameNow,c,nK]
   ·simp[c,d,nK]
  ·obtain⟨r,h1,h2⟩:=zru op es l h (i+1)
   refine⟨r,?_,?_⟩
   ·have a:(op == p.1)=false:=by rw[nK,cR];exact λe=>c e.symm
    simp[Instr.findNow,b,Instr.sameNow,a,h1]
   ·have a:(p.1 == op)=false:=by rw[nK,cR];exact c
    rw[h2,jx,a]
theorem zrv(w:World):nh (w.alloc (.map #[] 0)) w.heap.size []:=⟨#[],0,(fR w _).1,U⟩
theorem ztX{P:Program}{t k e:TypeId}(g:P.underlying t=some (.map k e))(d:P.underlying k=some .string){w:World}{b:Nat}{l:List (ByteArray × Bool)}(h:nh w b l)(x:ByteArray)(v:Bool)
 (j:l.find? (λp=>p.1 == x)=none):∃ w',(Instr.mapUpdate t (.map (some b)) (.string x) (.bool v)).run P w=.ok () w'/\nh w' b (l++[(x,v)])/\w.grownBy w' (some b):=by
 obtain⟨es,c,hb,f⟩:=h;obtain⟨r,h1,h2⟩:=zru x es.toList l f 0;have m:r=none:=by
  cases r with
  | none=>rfl
  | some q=>simp[j] at h2
 subst m;have hc:(Instr.checkKey false 10000 k (.string x)).run P w=.ok () w:=cz (k:=.string x) d (by simp[MapKept.IsKey]) false 9999;refine⟨{ w with heap:=w.heap.setIfInBounds b (.map (es.push { key:=.string x,val:=.bool v,born:=c }) (c+1)) },?_,?_,?_⟩
 ·simp[Instr.mapUpdate,bT g,bN hb,hc,bU d h1,eE _ hb,Result.andThen]
 ·exact⟨_,_,(dE hb).1,by simp[f]⟩
 ·exact⟨U,U,U,by simp,λi hi a=>(dE hb).2 i (λe=>a (by rw[e]))⟩
theorem ztY{P:Program}{t k e:TypeId}(i:P.underlying t=some (.map k e))(f:P.underlying k=some .string){w:World}{b:Nat}{l:List (ByteArray × Bool)}(h:nh w b l)(x:ByteArray)(v:Bool)
 (a:(l.find? (λp=>p.1 == x)).map (·.2)=some v):(Instr.lookup t (.map (some b)) (.string x) false).run P w=.ok (.bool v) w:=by
 obtain⟨es,c,hb,j⟩:=h;obtain⟨r,h1,h2⟩:=zru x es.toList l j 0;have hc:∀ d,(Instr.checkKey d 10000 k (.string x)).run P w=.ok () w:=λd=>cz (k:=.string x) f (by simp[MapKept.IsKey]) d 9999
 have h3:r.map (·.2)=some (Value.bool v):=by
  rw[h2];cases g:l.find? (λp=>p.1 == x) with
  | none=>rw[g] at a;cases a
  | some p=>rw[g] at a;simp only[eJ,aP] at a;simp[a]
 cases r with
 | none=>cases h3
 | some q =>
  simp only[eJ,aP] at h3;obtain⟨q1,m⟩:=q;simp only at h3;subst h3;simp[Instr.lookup,bT i,bN hb,hc,bU f h1,Result.andThen]
theorem tV{P:Program}(w:World){ops:Array Oper}{rest:List Oper}{o:Oper}{a:Act}{aj:Exit->Act->World->Prop}
 (g:o.guard=none) (m x v:Operand) (t:TypeId) (d:o.op=Op.insert t m x v) (k e:TypeId) (h:P.underlying t=some (.map k e)) (i:P.underlying k=some .string)
 (b:Nat) (l:List (ByteArray × Bool)) (j:a.eval m=.map (some b)) (hb:nh w b l) (key:ByteArray) (val:Bool) (n:a.eval x=.string key) (q:a.eval v=.bool val) (r:l.find? (λp=>p.1 == key)=none)
 (s:∀ w',nh w' b (l++[(key,val)])->w.grownBy w' (some b)->wpList P ops aj rest (a.put o.dst undef) w'):wpList P ops aj (o::rest) a w:=by
 refine dS g λu f=>?_
 obtain⟨w',c,r1,r2⟩:=ztX h i hb key val r;unfold Oper.wp;simp[execOp,d,j,n,q,c,Result.andThen];exact f _ _ (s w' r1 r2)
end Go.Proofs.YthghjlinhokimaaGreatDoor
