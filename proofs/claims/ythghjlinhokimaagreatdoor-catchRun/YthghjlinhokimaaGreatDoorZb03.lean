/-
  Parts of a proof, joined.
-/
import Derived.Test.YthghjlinhokimaaGreatDoorZbA
import Derived.Maps.OwnOps
import Derived.Shelf.Strings.OnBuilder
import Derived.Shelf.Small.Wraps
import Derived.Shelf.Strconv.Itoa3
import Derived.Shelf.Strconv.AtoiAll
import Derived.Shelf.Strings.Cut
import Derived.Shelf.Strings.Split
import Derived.Test.YthghjlinhokimaaGreatDoorProg
set_option linter.all false
set_option maxRecDepth 100000
open Option renaming none->G,some->A
open Go renaming World->u,Value->π,Calls->Δ,TypeId->aJ,Program->bX,Oper->cG,wpList->dg,Operand->dk,MapEntry->kw
open Bool renaming false->ξ,true->Γ
open Go.Proofs.Tryz renaming prog->ω
open Go.Result renaming andThen->aE
open Go.Instr renaming lookup->dV,findNow->eB,mapUpdate->fV,checkKey->gD,sameNow->jm
open Go.Lib renaming countB->fT
open Go.Value renaming string->Ω,bool->ν,int->J
open Go.MapKept renaming IsKey->ie
open Go.Op renaming insert->qI
open Go.IntKind renaming i64->Q
open Go.Ending renaming returned->μ
namespace Go.Proofs.YthghjlinhokimaaGreatDoor
open Go.ChangeShapes Go.WideShapes Go.ChangeAt Go.RowKit Go.Proofs.Tryz
def nX(w:u)(b:Nat)(l:List (Int × π)):Prop :=
 ∃ es clock,w.heap[b]?=A (.map es clock)/\es.toList.map (λe=>(e.key,e.val))=l.map (λp=>(Value.int Q p.1,p.2))
theorem znW(op:Int):∀(es:List kw) (l:List (Int × π)),es.map (λe=>(e.key,e.val))=l.map (λp=>(Value.int Q p.1,p.2))->∀ i:Nat,
 ∃ r,eB (.int Q) (J Q op) es i=A r/\r.map (·.2)=(l.find? (λp=>p.1 == op)).map (·.2)
 | [],[],_,i=>⟨G,D,D⟩
 | [],_::_,h,_=>by cases h
 | _::_,[],h,_=>by cases h
 | e::es,p::l,h,i=>by
  simp only[cI,eF,gv] at h;obtain⟨⟨b,d⟩,h⟩:=h;by_cases c:p.1=op
  ·refine⟨A (i,e.val),?_,?_⟩
   ·simp[eB,b,jm,c]
   ·simp[c,d]
  ·obtain⟨r,h1,h2⟩:=znW op es l h (i+1)
   refine⟨r,?_,?_⟩
   ·have a:(op == p.1)=ξ:=by simp;omega
    simp[eB,b,jm,a,h1]
   ·have a:(p.1 == op)=ξ:=by simp;omega
    rw[h2,mT,a]
theorem zrc(w:u):nX (w.alloc (.map #[] 0)) w.heap.size []:=⟨#[],0,(jD w _).1,D⟩
theorem nX.lt{w:u}{b:Nat}{l:List (Int × π)}(h:nX w b l):b<w.heap.size:=by
 obtain⟨es,c,hb,_⟩:=h;exact(aa.1 hb).1
theorem nX.alloc{w:u}{b:Nat}{l:List (Int × π)}(h:nX w b l)(o:Obj):nX (w.alloc o) b l:=by
 have a:=h.lt;obtain⟨es,c,hb,d⟩:=h;exact⟨es,c,by rw[(jD w o).2 b a];exact hb,d⟩
structure Stored (w w' : u) (b : Nat) : Prop where
 size:w'.heap.size=w.heap.size
 cell:∀ p v,w.cell? p=A v->w'.cell? p=A v
 grown:∀ W,Below W.heap.size W w->W.heap.size<=b->Below W.heap.size W w'
theorem zdd{w:u}{b:Nat}{es:Array kw}{clock:Nat}(hb:w.heap[b]?=A (.map es clock))(c:Array kw)(a:Nat):Stored w { w with heap:=w.heap.setIfInBounds b (.map c a) } b:=by
 have f:=eK (o':=.map c a) hb;refine⟨by simp,λp v hp=>?_,λW g h=>g.trans ⟨D,D,D,by simp,λk i=>f.2 k (by omega)⟩⟩
 ·have d:p.block≠b:=by
   intro e;simp[World.cell?,e,hb] at hp
  simp only[World.cell?] at hp ⊢;rw[f.2 _ d];exact hp
theorem zrd{P:bX}{t k e:aJ}(f:P.underlying t=A (.map k e))(a:P.underlying k=A (.int Q)){w:u}{b:Nat}{l:List (Int × π)}(h:nX w b l)(x:Int)(v:π)
 (g:l.find? (λp=>p.1 == x)=G):∃ w',(fV t (.map (A b)) (J Q x) v).run P w=.ok () w'/\nX w' b (l++[(x,v)])/\Stored w w' b:=by
 obtain⟨es,c,hb,d⟩:=h;obtain⟨r,h1,h2⟩:=znW x es.toList l d 0;have i:r=G:=by
  cases r with
  | none=>rfl
  | some q=>simp[g] at h2
 subst i;have hc:(gD ξ 10000 k (J Q x)).run P w=.ok () w:=dR (k:=J Q x) a (by simp[ie]) ξ 9999;refine⟨{ w with heap:=w.heap.setIfInBounds b (.map (es.push { key:=J Q x,val:=v,born:=c }) (c+1)) },?_,?_,zdd hb _ _⟩
 ·simp[fV,cQ f,cJ hb,hc,cU a h1,iD _ hb,aE]
 ·exact⟨_,_,(eK hb).1,by simp[d]⟩
theorem wX{P:bX}(w:u){ops:Array cG}{rest:List cG}{o:cG}{a:Act}{η:Exit->Act->u->Prop}
 (g:o.guard=G) (m x v:dk) (t:aJ) (d:o.op=qI t m x v) (k e:aJ) (i:P.underlying t=A (.map k e)) (j:P.underlying k=A (.int Q))
 (b:Nat) (l:List (Int × π)) (n:a.eval m=.map (A b)) (h:nX w b l) (key:Int) (val:π) (q:a.eval x=J Q key) (r:a.eval v=val) (s:l.find? (λp=>p.1 == key)=G)
 (y:∀ w',nX w' b (l++[(key,val)])->Stored w w' b->dg P ops η rest (a.put o.dst undef) w'):dg P ops η (o::rest) a w:=by
 refine gj g λz f=>?_
 obtain⟨w',c,r1,r2⟩:=zrd i j h key val s;unfold Oper.wp;simp[execOp,d,n,q,r,c,aE];exact f _ _ (y w' r1 r2)
theorem wY{P:bX}{t k e:aJ}(f:P.underlying t=A (.map k e))(a:P.underlying k=A (.int Q)){w:u}{b:Nat}{l:List (Int × π)}(h:nX w b l)(x:Int)(z:π)
 (j:(zeroValue e).run P w=.ok z w):(dV t (.map (A b)) (J Q x) Γ).run P w =
  .ok (.tuple #[((l.find? (λp=>p.1 == x)).map (·.2)).getD z,ν (l.find? (λp=>p.1 == x)).isSome]) w:=by
 obtain⟨es,c,hb,m⟩:=h;obtain⟨r,h1,h2⟩:=znW x es.toList l m 0;have hc:∀ d,(gD d 10000 k (J Q x)).run P w=.ok () w:=λd=>dR (k:=J Q x) a (by simp[ie]) d 9999
 cases r with
 | none =>
  have n:l.find? (λp=>p.1 == x)=G:=by simpa using h2.symm
  rw[n];simp[dV,cQ f,cJ hb,hc,cU a h1,j,aE]
 | some q =>
  obtain⟨i,v⟩:=q;cases g:l.find? (λp=>p.1 == x) with
  | none=>simp[g] at h2
  | some y =>
   simp[g] at h2;simp[dV,cQ f,cJ hb,hc,cU a h1,aE,h2]
end Go.Proofs.YthghjlinhokimaaGreatDoor
namespace Go.Proofs
open Go.Shelf
def Tryz.laysM171_ren:Go.Shelf.Ren:=⟨fun|171=>104|243=>177|246=>238|283=>276|284=>277|285=>278|286=>279|129=>341|317=>340|318=>342|319=>343|320=>344|337=>367|338=>368|n=>n,fun|3=>3|9=>9|2=>2|4=>4|171=>349|0=>0|53=>350|37=>26|5=>5|173=>353|212=>397|51=>346|20=>20|213=>398|46=>304|232=>436|233=>437|n=>n,fun|17=>6|18=>9|19=>10|n=>n⟩
theorem Tryz.laysM171:Go.Proofs.LaysM.n171 ω Tryz.laysM171_ren:={
 mixed:=by kernel_rfl
 f129:=Tryz.func341.trans (congrArg A (by kernel_rfl))
 f171:=Tryz.func104.trans (congrArg A (by kernel_rfl))
 f243:=Tryz.func177.trans (congrArg A (by kernel_rfl))
 f246:=Tryz.func238.trans (congrArg A (by kernel_rfl))
 f283:=Tryz.func276.trans (congrArg A (by kernel_rfl))
 f284:=Tryz.func277.trans (congrArg A (by kernel_rfl))
 f285:=Tryz.func278.trans (congrArg A (by kernel_rfl))
 f286:=Tryz.func279.trans (congrArg A (by kernel_rfl))
 f317:=Tryz.func340.trans (congrArg A (by kernel_rfl))
 f318:=Tryz.func342.trans (congrArg A (by kernel_rfl))
 f319:=Tryz.func343.trans (congrArg A (by kernel_rfl))
 f320:=Tryz.func344.trans (congrArg A (by kernel_rfl))
 f337:=Tryz.func367.trans (congrArg A (by kernel_rfl))
 f338:=Tryz.func368.trans (congrArg A (by kernel_rfl))
 t0:=underlying0
 a0:=isAgg0
 z0:=sizeOf0
 v0:=zeroValue0
 t2:=underlying2
 a2:=isAgg2
 z2:=sizeOf2
 v2:=zeroValue2
 t3:=underlying3
 a3:=isAgg3
 z3:=sizeOf3
 v3:=zeroValue3
 t4:=underlying4
 a4:=isAgg4
 z4:=sizeOf4
 v4:=zeroValue4
 t5:=underlying5
 a5:=isAgg5
 z5:=sizeOf5
 v5:=zeroValue5
 t9:=underlying9
 a9:=isAgg9
 z9:=sizeOf9
 v9:=zeroValue9
 t20:=underlying20
 a20:=isAgg20
 z20:=sizeOf20
 v20:=zeroValue20
 t37:=underlying26
 a37:=isAgg26
 z37:=sizeOf26
 v37:=zeroValue26
 t46:=underlying304
 a46:=isAgg304
 z46:=sizeOf304
 v46:=zeroValue304
 t51:=underlying346
 a51:=isAgg346
 z51:=sizeOf346
 v51:=zeroValue346
 t53:=underlying350
 a53:=isAgg350
 z53:=sizeOf350
 v53:=zeroValue350
 t171:=underlying349
 a171:=isAgg349
 z171:=sizeOf349
 v171:=zeroValue349
 t173:=underlying353
 a173:=isAgg353
 z173:=sizeOf353
 v173:=zeroValue353
 t212:=underlying397
 a212:=isAgg397
 z212:=sizeOf397
 v212:=zeroValue397
 t213:=underlying398
 a213:=isAgg398
 z213:=sizeOf398
 t232:=underlying436
 a232:=isAgg436
 z232:=sizeOf436
 v232:=zeroValue436
 t233:=underlying437
 a233:=isAgg437
 z233:=sizeOf437
 v233:=zeroValue437
 g17:=by kernel_rfl
 g18:=by kernel_rfl
 g19:=by kernel_rfl
 i0:=by kernel_rfl
 i2:=by kernel_rfl
 i3:=by kernel_rfl
 i4:=by kernel_rfl
 i5:=by kernel_rfl
 i9:=by kernel_rfl
 i20:=by kernel_rfl
 i37:=by kernel_rfl
 i46:=by kernel_rfl
 i51:=by kernel_rfl
 i53:=by kernel_rfl
 i171:=by kernel_rfl
 i173:=by kernel_rfl
 i212:=by kernel_rfl
 i232:=by kernel_rfl
 i233:=by kernel_rfl
 m17:=by kernel_rfl
 m18:=by kernel_rfl
 m19:=by kernel_rfl }
open Go.RowKit Go.Sort Go.Lib in
theorem Tryz.strconv_Itoa(n:Int)(b:-9223372036854775808<=n)(h1:n<=9223372036854775807)(w:u)(a:Lib.TabIs ω w "internal/strconv.uint64pow10" .u64 Lib.pow10Tab):Δ ω 104 #[J Q n] w λe w'=>e=μ (Ω ⟨(Lib.itoa n).toArray⟩) /\ ∃ k os,w'=grow (w.drewN k) os:=Any.strconv_Itoa Tryz.laysM171 n b h1 w a
def Tryz.lays145_ren:Go.Shelf.Ren:=⟨fun|145=>53|220=>100|219=>175|217=>234|225=>235|224=>236|267=>237|266=>274|314=>275|n=>n,fun|9=>9|4=>4|59=>127|3=>3|5=>5|46=>304|146=>347|51=>346|n=>n,fun|1=>0|n=>n⟩
theorem Tryz.lays145:Go.Proofs.Lays.n145 ω Tryz.lays145_ren:={
 mixed:=by kernel_rfl
 f145:=Tryz.func53.trans (congrArg A (by kernel_rfl))
 f217:=Tryz.func234.trans (congrArg A (by kernel_rfl))
 f219:=Tryz.func175.trans (congrArg A (by kernel_rfl))
 f220:=Tryz.func100.trans (congrArg A (by kernel_rfl))
 f224:=Tryz.func236.trans (congrArg A (by kernel_rfl))
 f225:=Tryz.func235.trans (congrArg A (by kernel_rfl))
 f266:=Tryz.func274.trans (congrArg A (by kernel_rfl))
 f267:=Tryz.func237.trans (congrArg A (by kernel_rfl))
 f314:=Tryz.func275.trans (congrArg A (by kernel_rfl))
 t3:=underlying3
 a3:=isAgg3
 z3:=sizeOf3
 v3:=zeroValue3
 t4:=underlying4
 a4:=isAgg4
 z4:=sizeOf4
 v4:=zeroValue4
 t5:=underlying5
 a5:=isAgg5
 z5:=sizeOf5
 v5:=zeroValue5
 t9:=underlying9
 a9:=isAgg9
 z9:=sizeOf9
 v9:=zeroValue9
 t46:=underlying304
 a46:=isAgg304
 z46:=sizeOf304
 v46:=zeroValue304
 t51:=underlying346
 a51:=isAgg346
 z51:=sizeOf346
 v51:=zeroValue346
 t59:=underlying127
 a59:=isAgg127
 z59:=sizeOf127
 v59:=zeroValue127
 t146:=underlying347
 a146:=isAgg347
 z146:=sizeOf347
 v146:=zeroValue347
 g1:=by kernel_rfl }
open Go.RowKit Go.Lib in
theorem Tryz.strings_Cut(s a:ByteArray)(m:Int)(w:u)(b:s.size<4294967281)(c:w.cell? ⟨0,0,G⟩=A (J Q m)):Δ ω 53 #[Ω s,Ω a] w λe w'=>e=μ (.tuple #[Ω ⟨(Lib.cut s.data.toList a.data.toList).1.toArray⟩,Ω ⟨(Lib.cut s.data.toList a.data.toList).2.1.toArray⟩,ν (Lib.cut s.data.toList a.data.toList).2.2]) /\ ∃ n,w'=w.drewN n:=Any.strings_Cut Tryz.lays145 s a m w b c
def Tryz.lays146_ren:Go.Shelf.Ren:=⟨fun|146=>169|221=>228|268=>266|138=>66|143=>126|195=>124|197=>334|218=>125|219=>175|260=>364|217=>234|225=>235|224=>236|267=>237|266=>274|314=>275|n=>n,fun|9=>9|31=>251|3=>3|4=>4|0=>0|105=>387|21=>21|5=>5|46=>304|119=>335|139=>434|138=>433|146=>347|51=>346|n=>n,fun|1=>0|3=>7|4=>8|n=>n⟩
theorem Tryz.lays146:Go.Proofs.Lays.n146 ω Tryz.lays146_ren:={
 mixed:=by kernel_rfl
 f138:=Tryz.func66.trans (congrArg A (by kernel_rfl))
 f143:=Tryz.func126.trans (congrArg A (by kernel_rfl))
 f146:=Tryz.func169.trans (congrArg A (by kernel_rfl))
 f195:=Tryz.func124.trans (congrArg A (by kernel_rfl))
 f197:=Tryz.func334.trans (congrArg A (by kernel_rfl))
 f217:=Tryz.func234.trans (congrArg A (by kernel_rfl))
 f218:=Tryz.func125.trans (congrArg A (by kernel_rfl))
 f219:=Tryz.func175.trans (congrArg A (by kernel_rfl))
 f221:=Tryz.func228.trans (congrArg A (by kernel_rfl))
 f224:=Tryz.func236.trans (congrArg A (by kernel_rfl))
 f225:=Tryz.func235.trans (congrArg A (by kernel_rfl))
 f260:=Tryz.func364.trans (congrArg A (by kernel_rfl))
 f266:=Tryz.func274.trans (congrArg A (by kernel_rfl))
 f267:=Tryz.func237.trans (congrArg A (by kernel_rfl))
 f268:=Tryz.func266.trans (congrArg A (by kernel_rfl))
 f314:=Tryz.func275.trans (congrArg A (by kernel_rfl))
 t0:=underlying0
 a0:=isAgg0
 z0:=sizeOf0
 v0:=zeroValue0
 t3:=underlying3
 a3:=isAgg3
 z3:=sizeOf3
 v3:=zeroValue3
 t4:=underlying4
 a4:=isAgg4
 z4:=sizeOf4
 v4:=zeroValue4
 t5:=underlying5
 a5:=isAgg5
 z5:=sizeOf5
 v5:=zeroValue5
 t9:=underlying9
 a9:=isAgg9
 z9:=sizeOf9
 v9:=zeroValue9
 t21:=underlying21
 a21:=isAgg21
 z21:=sizeOf21
 v21:=zeroValue21
 t31:=underlying251
 a31:=isAgg251
 z31:=sizeOf251
 v31:=zeroValue251
 t46:=underlying304
 a46:=isAgg304
 z46:=sizeOf304
 v46:=zeroValue304
 t51:=underlying346
 a51:=isAgg346
 z51:=sizeOf346
 v51:=zeroValue346
 t105:=underlying387
 a105:=isAgg387
 z105:=sizeOf387
 v105:=zeroValue387
 t119:=underlying335
 a119:=isAgg335
 z119:=sizeOf335
 t138:=underlying433
 a138:=isAgg433
 z138:=sizeOf433
 v138:=zeroValue433
 t139:=underlying434
 a139:=isAgg434
 z139:=sizeOf434
 v139:=zeroValue434
 t146:=underlying347
 a146:=isAgg347
 z146:=sizeOf347
 v146:=zeroValue347
 g1:=by kernel_rfl
 g3:=by kernel_rfl
 g4:=by kernel_rfl }
open Go.RowKit Go.Lib in
theorem Tryz.strings_Split(s a:ByteArray)(m:Int)(w:u)(b:s.size<4294967281)(c:w.cell? ⟨0,0,G⟩=A (J Q m))(h1:1<=a.size):Δ ω 169 #[Ω s,Ω a] w λe w' =>
  e=μ (.slice (A ⟨w.heap.size,0,G⟩) (fT s a+1) (fT s a+1))/\w'=w.alloc (.cells ((Lib.splitB a 0 (fT s a) s).map Ω).toArray 9):=Any.strings_Split Tryz.lays146 (by kernel_rfl) s a m w b c h1
end Go.Proofs
namespace Go.Proofs.YthghjlinhokimaaGreatDoor
open Go.ChangeShapes Go.WideShapes Go.ChangeAt Go.RowKit Go.Proofs.Tryz
def sw(w:u)(b:Nat)(v:π):Prop:=∃ n c,w.heap[b]?=A (.map #[{ key:=ν Γ,val:=v,born:=n }] c)
theorem zn8{P:bX}{t k e:aJ}(d:P.underlying t=A (.map k e))(a:P.underlying k=A .bool){w:u}{b c:Nat}(hb:w.heap[b]?=A (.map #[] c))(v:π):∃ w',(fV t (.map (A b)) (ν Γ) v).run P w=.ok () w'/\sw w' b v/\Stored w w' b:=by
 have hc:(gD ξ 10000 k (ν Γ)).run P w=.ok () w:=dR (k:=ν Γ) a (by simp[ie]) ξ 9999;have h1:eB .bool (ν Γ) (#[]:Array kw).toList 0=A G:=D;refine⟨{ w with heap:=w.heap.setIfInBounds b (.map ((#[]:Array kw).push { key:=ν Γ,val:=v,born:=c }) (c+1)) },?_,?_,zdd hb _ _⟩
 ·simp[fV,cQ d,cJ hb,hc,cU a h1,iD _ hb,aE]
 ·exact⟨_,_,(eK hb).1⟩
theorem zdW{P:bX}(w:u){ops:Array cG}{rest:List cG}{o:cG}{a:Act}{η:Exit->Act->u->Prop}
 (h:o.guard=G) (m x v:dk) (t:aJ) (f:o.op=qI t m x v) (k e:aJ) (i:P.underlying t=A (.map k e)) (j:P.underlying k=A .bool)
 (b c:Nat) (l:a.eval m=.map (A b)) (hb:w.heap[b]?=A (.map #[] c)) (val:π) (n:a.eval x=ν Γ) (p:a.eval v=val)
 (q:∀ w',sw w' b val->Stored w w' b->dg P ops η rest (a.put o.dst undef) w'):dg P ops η (o::rest) a w:=by
 refine gj h λr g=>?_
 obtain⟨w',d,r1,r2⟩:=zn8 i j hb val;unfold Oper.wp;simp[execOp,f,l,n,p,d,aE];exact g _ _ (q w' r1 r2)
def vh(x:Bool)(v z:π):π:=if x then v else z
theorem zcY{P:bX}{t k e:aJ}(f:P.underlying t=A (.map k e))(a:P.underlying k=A .bool){w:u}{b:Nat}{v:π}(h:sw w b v)(x:Bool)(z:π)
 (g:(zeroValue e).run P w=.ok z w):(dV t (.map (A b)) (ν x) ξ).run P w=.ok (vh x v z) w:=by
 obtain⟨n,c,hb⟩:=h;have hc:∀ d,(gD d 10000 k (ν x)).run P w=.ok () w:=λd=>dR (k:=ν x) a (by simp[ie]) d 9999
 cases x
 ·have h1:eB .bool (ν ξ) (#[{ key:=ν Γ,val:=v,born:=n }]:Array kw).toList 0=A G:=D
  simp[dV,cQ f,cJ hb,hc,cU a h1,g,aE,vh]
 ·have h1:eB .bool (ν Γ) (#[{ key:=ν Γ,val:=v,born:=n }]:Array kw).toList 0=A (A (0,v)):=D
  simp[dV,cQ f,cJ hb,hc,cU a h1,aE,vh]
def sk(w:u)(b:Nat)(l:List (ByteArray × Bool)):Prop :=
 ∃ es clock,w.heap[b]?=A (.map es clock)/\es.toList.map (λe=>(e.key,e.val))=l.map (λp=>(Ω p.1,ν p.2))
theorem sP(a b:ByteArray):(a == b)=decide (a=b):=by
 cases h:(a == b)
 ·rw[qV,eO];intro e;rw[(jP a b).2 e] at h;cases h
 ·rw[qV,cu];exact(jP a b).1 h
theorem zt6(op:ByteArray):∀(es:List kw) (l:List (ByteArray × Bool)),es.map (λe=>(e.key,e.val))=l.map (λp=>(Ω p.1,ν p.2))->∀ i:Nat,
 ∃ r,eB .string (Ω op) es i=A r/\r.map (·.2)=(l.find? (λp=>p.1 == op)).map (λp=>ν p.2)
 | [],[],_,i=>⟨G,D,D⟩
 | [],_::_,h,_=>by cases h
 | _::_,[],h,_=>by cases h
 | e::es,p::l,h,i=>by
  simp only[cI,eF,gv] at h;obtain⟨⟨b,d⟩,h⟩:=h;by_cases c:p.1=op
  ·refine⟨A (i,e.val),?_,?_⟩
   ·simp[eB,b,jm,c,sP]
   ·simp[c,d,sP]
  ·obtain⟨r,h1,h2⟩:=zt6 op es l h (i+1)
   refine⟨r,?_,?_⟩
   ·have a:(op == p.1)=ξ:=by rw[sP,eO];exact λe=>c e.symm
    simp[eB,b,jm,a,h1]
   ·have a:(p.1 == op)=ξ:=by rw[sP,eO];exact c
    rw[h2,mT,a]
theorem zt7(w:u):sk (w.alloc (.map #[] 0)) w.heap.size []:=⟨#[],0,(jD w _).1,D⟩
theorem zwM{P:bX}{t k e:aJ}(g:P.underlying t=A (.map k e))(d:P.underlying k=A .string){w:u}{b:Nat}{l:List (ByteArray × Bool)}(h:sk w b l)(x:ByteArray)(v:Bool)
 (j:l.find? (λp=>p.1 == x)=G):∃ w',(fV t (.map (A b)) (Ω x) (ν v)).run P w=.ok () w'/\sk w' b (l++[(x,v)])/\w.grownBy w' (A b):=by
 obtain⟨es,c,hb,f⟩:=h;obtain⟨r,h1,h2⟩:=zt6 x es.toList l f 0;have m:r=G:=by
  cases r with
  | none=>rfl
  | some q=>simp[j] at h2
 subst m;have hc:(gD ξ 10000 k (Ω x)).run P w=.ok () w:=dR (k:=Ω x) d (by simp[ie]) ξ 9999;refine⟨{ w with heap:=w.heap.setIfInBounds b (.map (es.push { key:=Ω x,val:=ν v,born:=c }) (c+1)) },?_,?_,?_⟩
 ·simp[fV,cQ g,cJ hb,hc,cU d h1,iD _ hb,aE]
 ·exact⟨_,_,(eK hb).1,by simp[f]⟩
 ·exact⟨D,D,D,by simp,λi hi a=>(eK hb).2 i (λe=>a (by rw[e]))⟩
theorem zwN{P:bX}{t k e:aJ}(i:P.underlying t=A (.map k e))(f:P.underlying k=A .string){w:u}{b:Nat}{l:List (ByteArray × Bool)}(h:sk w b l)(x:ByteArray)(v:Bool)
 (a:(l.find? (λp=>p.1 == x)).map (·.2)=A v):(dV t (.map (A b)) (Ω x) ξ).run P w=.ok (ν v) w:=by
 obtain⟨es,c,hb,j⟩:=h;obtain⟨r,h1,h2⟩:=zt6 x es.toList l j 0;have hc:∀ d,(gD d 10000 k (Ω x)).run P w=.ok () w:=λd=>dR (k:=Ω x) f (by simp[ie]) d 9999
 have h3:r.map (·.2)=A (ν v):=by
  rw[h2];cases g:l.find? (λp=>p.1 == x) with
  | none=>rw[g] at a;cases a
  | some p=>rw[g] at a;simp only[iG,aZ] at a;simp[a]
 cases r with
 | none=>cases h3
 | some q =>
  simp only[iG,aZ] at h3;obtain⟨q1,m⟩:=q;simp only at h3;subst h3;simp[dV,cQ i,cJ hb,hc,cU f h1,aE]
theorem AL{P:bX}(w:u){ops:Array cG}{rest:List cG}{o:cG}{a:Act}{η:Exit->Act->u->Prop}
 (g:o.guard=G) (m x v:dk) (t:aJ) (d:o.op=qI t m x v) (k e:aJ) (h:P.underlying t=A (.map k e)) (i:P.underlying k=A .string)
 (b:Nat) (l:List (ByteArray × Bool)) (j:a.eval m=.map (A b)) (hb:sk w b l) (key:ByteArray) (val:Bool) (n:a.eval x=Ω key) (q:a.eval v=ν val) (r:l.find? (λp=>p.1 == key)=G)
 (s:∀ w',sk w' b (l++[(key,val)])->w.grownBy w' (A b)->dg P ops η rest (a.put o.dst undef) w'):dg P ops η (o::rest) a w:=by
 refine gj g λy f=>?_
 obtain⟨w',c,r1,r2⟩:=zwM h i hb key val r;unfold Oper.wp;simp[execOp,d,j,n,q,c,aE];exact f _ _ (s w' r1 r2)
end Go.Proofs.YthghjlinhokimaaGreatDoor
