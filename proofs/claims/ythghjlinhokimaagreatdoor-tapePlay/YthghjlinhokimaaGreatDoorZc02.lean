/-
  Parts of a proof, joined.
-/
import Derived.Test.YthghjlinhokimaaGreatDoorZcA
import Derived.Lay
import Derived.Lib.LaidU8
import Derived.Stop.Joined
import Derived.Deep.RegionHeld3
import Derived.Shelf.Strconv.ParseIntPublic10
import Derived.Shelf.Strings.SplitShaped
import Derived.Test.YthghjlinhokimaaGreatDoorProg
set_option linter.all false
set_option maxRecDepth 100000
namespace Go.Proofs.YthghjlinhokimaaGreatDoor
open Go.ChangeShapes Go.WideShapes Go.ChangeAt Go.RowKit Go.Proofs.Tryz
theorem own:ownKnob Tryz.prog.godebug=none:=by kernel_rfl
theorem zfk{W:World}(h:W.ShapedOpen prog):∃ m,W.cell? ⟨0,0,none⟩=some (.int .i64 m) :=
 cell_of_shapedOpen_int (t:=3) (zero:=#[.int .i64 0]) h (by decide +kernel) (by kernel_rfl) U (by kernel_rfl) (by kernel_rfl) underlying3
end Go.Proofs.YthghjlinhokimaaGreatDoor
namespace Go.Proofs.YthghjlinhokimaaGreatDoor
open Go.ChangeShapes Go.WideShapes Go.ChangeAt Go.RowKit Go.Proofs.Tryz
open Go
section
variable {P : Program} {ops : Array Oper} {aj : Exit -> Act -> World -> Prop} {md : Region.Mode} {S : World -> Prop} {st : Nat}
def dg(P:Program)(md:Region.Mode)(ops:Array Oper)(aj:Exit->Act->World->Prop)(S:World->Prop)(st:Nat):Nat->Array Bool->Act->World->Prop
 | 0,b,a,w=>Region.ready md ops b=[]/\aj .normal a w
 | fuel+1,b,a,w =>
  (Region.ready md ops b=[]->aj .normal a w) /\
  ∀ i∈Region.ready md ops b,wpOp P ops aj i (λc w'=>((b.setIfInBounds i true).getD st true=false->S w')/\dg P md ops aj S st fuel (b.setIfInBounds i true) c w') a w
theorem zhd:∀(fuel:Nat) (b:Array Bool) (a:Act) (w:World),dg P md ops aj S st fuel b a w->wpAny P md ops aj fuel b a w
 | 0,_,_,_,h=>h
 | fuel+1,_,_,_,h=>⟨h.1,λi hi=>l8 (λc w' d=>zhd fuel _ c w' d.2) (h.2 i hi)⟩
def waits(md:Region.Mode)(ops:Array Oper)(st i:Nat):Bool :=
 match ops[st]? with
 | some o=>o.after.toList.any λe=>Region.binds md e && e.on == i
 | none=>false
theorem zoJ{i:Nat}(h:waits md ops st i=true):∃ os,ops[st]?=some os /\ ∃ e∈os.after,Region.binds md e=true/\e.on=i:=by
 unfold waits at h;cases a:ops[st]? with
 | none=>rw[a] at h;cases h
 | some os =>
  rw[a] at h;obtain⟨e,b,h2⟩:=i8.1 h;simp only[dZ,iz] at h2;exact⟨os,U,e,by simpa using b,h2.1,h2.2⟩
theorem zij{i:Nat}{oi:Oper}{v:Value}(hi:ops[i]?=some oi)(n:∀(j:Nat) (o:Oper) cs b,ops[j]?=some o->o.op ≠ .select cs b)
 (V:∀ c a w,aj (.panic c) (a.put oi.dst v) w->aj (.panic c) a w) (E:st≠i) :
 ∀(fuel:Nat) (d:Array Bool) (a:Act) (w:World),
  (∀ j oj,ops[j]?=some oj->j≠i->d.getD j true=false->(∀ e∈oj.after,Region.binds md e=true->e.on≠i)->oi.apart ops oj=true) ->
  i∈Region.ready md ops d->YieldsIf P ops (λ_=>True) oi v a->(d.getD st true=false->S w) ->
  dg P md ops aj S st fuel (d.setIfInBounds i true) (a.put oi.dst v) w->dg P md ops aj S st (fuel+1) d a w:=by
 have p:∀(l:Array Bool) (j:Nat),(l.setIfInBounds j true).getD st true=false->l.getD st true=false:=λl j h=>by
  by_cases r:j=st
  ·subst r
   simp[Array.getD] at h
  ·rw[fV true r] at h;exact h
 intro fuel;induction fuel with
 | zero =>
  intro d a w _ s B F H;refine⟨λh=>(by rw[h] at s;cases s),λj r=>?_⟩;by_cases f:j=i
  ·subst f;exact B.wpOp hi trivial ⟨λh=>F (p _ _ h),H⟩
  ·have:=iA r f
   rw[H.1] at this;cases this
 | succ fuel W =>
  intro d a w g s B F H;refine⟨λh=>(by rw[h] at s;cases s),λj r=>?_⟩;by_cases f:j=i
  ·subst f;exact B.wpOp hi trivial ⟨λh=>F (p _ _ h),H⟩
  ·have h1:=H.2 j (iA r f)
   obtain⟨q,oj,t,u⟩:=kM.1 r;have x:∀ e∈oj.after,Region.binds md e=true->e.on≠i:=λe X hb I=>by
    have h1:=u e X hb;have R:=(kM.1 s).1;rw[I] at h1;rcases ey i d.size with L|L
    ·simp[L] at R h1;rw[R] at h1;cases h1
    ·simp[gu L] at h1
   have h2:=wpOp_putIf t (g j oj t f q x) (λcs b=>n i oi cs b hi) (λcs b=>n j oj cs b t) V B h1;have m:∀ k ok,ops[k]?=some ok->k≠i->(d.setIfInBounds j true).getD k true=false ->
    (∀ e∈ok.after,Region.binds md e=true->e.on≠i)->oi.apart ops ok=true:=λk ok Y M y N=>by
    refine g k ok Y M ?_ N;by_cases z:j=k
    ·subst z;exact q
    ·rw[fV true z] at y;exact y
   refine l8 (λZ w' h3=>?_) h2
   ·have T:(d.setIfInBounds j true).getD st true=false->((d.setIfInBounds i true).setIfInBounds j true).getD st true=false:=λh=>by
     rw[fE _ _ (br f),fV true (br E)];exact h
    refine⟨λh=>h3.2.1 (T h),W (d.setIfInBounds j true) Z w' m (iA s (br f)) h3.1 (λh=>h3.2.1 (T h)) ?_⟩;rw[fE _ _ f];exact h3.2.2
theorem kH{i:Nat}{oi:Oper}{v:Value}{fuel:Nat}{b:Array Bool}{a:Act}{w:World}(hi:ops[i]?=some oi)
 (e:Region.noSelect ops=true) (f:Region.free md ops b i=true) (g:(Region.ready md ops b).contains i=true) (d:st≠i)
 (j:∀ c a w,aj (.panic c) (a.put oi.dst v) w->aj (.panic c) a w) (k:YieldsIf P ops (λ_=>True) oi v a) (l:b.getD st true=false->S w)
 (h:dg P md ops aj S st fuel (b.setIfInBounds i true) (a.put oi.dst v) w):dg P md ops aj S st (fuel+1) b a w :=
 zij hi (jY e) j d fuel b a w (kP hi f) (by simpa using g) k l h
theorem zoK{fuel:Nat}{b:Array Bool}{a:Act}{w:World}{i:Nat}{o:Oper}(e:Region.ready md ops b=[i])(g:ops[i]?=some o)
 (h:∀ c:Act->World->Prop,Shut (∀ a w,((b.setIfInBounds i true).getD st true=false->S w)->dg P md ops aj S st fuel (b.setIfInBounds i true) a w->c a w)->if Region.wanted o (yielded ops a.tmps)=true then Oper.wp P o a w c aj else c (a.put o.dst undef) w) :
 dg P md ops aj S st (fuel+1) b a w :=
 And.intro (λf=>(by rw[e] at f;cases f)) (λj d=>(by
  rw[e] at d;rcases aV.1 d with rfl|d
  ·exact l9 g (λc k=>h c (λa w l m=>k a w ⟨l,m⟩))
  ·cases d))
theorem lL{b:Array Bool}{a:Act}{w:World}(c:Region.ready md ops b=[])(h:aj .normal a w):∀ fuel,dg P md ops aj S st fuel b a w
 | 0=>⟨c,h⟩
 | _+1=>⟨λ_=>h,by rw[c];simp⟩
theorem mI{id:Nat}{a:Act}{w:World}(b:P.follows .mixedOrders=true)
 (h:dg P .any ops aj S st ops.size (Array.replicate ops.size false) a w.drew):(Code.region id ops true).wp P aj a w :=
 wp_region_any b (zhd _ _ _ _ h)
end
end Go.Proofs.YthghjlinhokimaaGreatDoor
namespace Go.Proofs
open Go.Shelf
def Tryz.laysC174_ren:Go.Shelf.Ren:=⟨fun|174=>217|247=>263|245=>230|287=>333|279=>267|280=>268|281=>269|282=>270|321=>362|322=>363|316=>335|171=>104|205=>336|243=>177|246=>238|283=>276|284=>277|285=>278|286=>279|129=>341|317=>340|318=>342|319=>343|320=>344|337=>367|338=>368|n=>n,fun|9=>9|3=>3|2=>2|75=>175|85=>287|4=>4|167=>340|5=>5|53=>350|175=>385|46=>304|168=>341|37=>26|0=>0|210=>391|21=>21|127=>256|145=>419|143=>417|171=>349|173=>353|212=>397|51=>346|20=>20|213=>398|232=>436|233=>437|80=>180|n=>n,fun|15=>4|16=>5|17=>6|18=>9|19=>10|n=>n⟩
theorem Tryz.laysC174:Go.Proofs.LaysC.n174 prog Tryz.laysC174_ren:={
 mixed:=by kernel_rfl
 f129:=Tryz.func341.trans (congrArg some (by kernel_rfl))
 f171:=Tryz.func104.trans (congrArg some (by kernel_rfl))
 f174:=Tryz.func217.trans (congrArg some (by kernel_rfl))
 f205:=Tryz.func336.trans (congrArg some (by kernel_rfl))
 f243:=Tryz.func177.trans (congrArg some (by kernel_rfl))
 f245:=Tryz.func230.trans (congrArg some (by kernel_rfl))
 f246:=Tryz.func238.trans (congrArg some (by kernel_rfl))
 f247:=Tryz.func263.trans (congrArg some (by kernel_rfl))
 f279:=Tryz.func267.trans (congrArg some (by kernel_rfl))
 f280:=Tryz.func268.trans (congrArg some (by kernel_rfl))
 f281:=Tryz.func269.trans (congrArg some (by kernel_rfl))
 f282:=Tryz.func270.trans (congrArg some (by kernel_rfl))
 f283:=Tryz.func276.trans (congrArg some (by kernel_rfl))
 f284:=Tryz.func277.trans (congrArg some (by kernel_rfl))
 f285:=Tryz.func278.trans (congrArg some (by kernel_rfl))
 f286:=Tryz.func279.trans (congrArg some (by kernel_rfl))
 f287:=Tryz.func333.trans (congrArg some (by kernel_rfl))
 f316:=Tryz.func335.trans (congrArg some (by kernel_rfl))
 f317:=Tryz.func340.trans (congrArg some (by kernel_rfl))
 f318:=Tryz.func342.trans (congrArg some (by kernel_rfl))
 f319:=Tryz.func343.trans (congrArg some (by kernel_rfl))
 f320:=Tryz.func344.trans (congrArg some (by kernel_rfl))
 f321:=Tryz.func362.trans (congrArg some (by kernel_rfl))
 f322:=Tryz.func363.trans (congrArg some (by kernel_rfl))
 f337:=Tryz.func367.trans (congrArg some (by kernel_rfl))
 f338:=Tryz.func368.trans (congrArg some (by kernel_rfl))
 t0:=underlying0
 a0:=isAgg0
 z0:=sizeOf0
 v0:=zeroValue0
 t2:=underlying2
 a2:=isAgg2
 z2:=sizeOf2
 v2:=zeroValue2
 t3:=underlying3
 a3:=isAgg3
 z3:=sizeOf3
 v3:=zeroValue3
 t4:=underlying4
 a4:=isAgg4
 z4:=sizeOf4
 v4:=zeroValue4
 t5:=underlying5
 a5:=isAgg5
 z5:=sizeOf5
 v5:=zeroValue5
 t9:=underlying9
 a9:=isAgg9
 z9:=sizeOf9
 v9:=zeroValue9
 t20:=underlying20
 a20:=isAgg20
 z20:=sizeOf20
 v20:=zeroValue20
 t21:=underlying21
 a21:=isAgg21
 z21:=sizeOf21
 v21:=zeroValue21
 t37:=underlying26
 a37:=isAgg26
 z37:=sizeOf26
 v37:=zeroValue26
 t46:=underlying304
 a46:=isAgg304
 z46:=sizeOf304
 v46:=zeroValue304
 t51:=underlying346
 a51:=isAgg346
 z51:=sizeOf346
 v51:=zeroValue346
 t53:=underlying350
 a53:=isAgg350
 z53:=sizeOf350
 v53:=zeroValue350
 t75:=underlying175
 a75:=isAgg175
 z75:=sizeOf175
 v75:=zeroValue175
 t85:=underlying287
 a85:=isAgg287
 z85:=sizeOf287
 v85:=zeroValue287
 t127:=underlying256
 a127:=isAgg256
 z127:=sizeOf256
 v127:=zeroValue256
 t143:=underlying417
 a143:=isAgg417
 z143:=sizeOf417
 v143:=zeroValue417
 t145:=underlying419
 a145:=isAgg419
 z145:=sizeOf419
 v145:=zeroValue419
 t167:=underlying340
 a167:=isAgg340
 z167:=sizeOf340
 v167:=zeroValue340
 t168:=underlying341
 a168:=isAgg341
 z168:=sizeOf341
 v168:=zeroValue341
 t171:=underlying349
 a171:=isAgg349
 z171:=sizeOf349
 v171:=zeroValue349
 t173:=underlying353
 a173:=isAgg353
 z173:=sizeOf353
 v173:=zeroValue353
 t175:=underlying385
 a175:=isAgg385
 z175:=sizeOf385
 v175:=zeroValue385
 t210:=underlying391
 a210:=isAgg391
 z210:=sizeOf391
 v210:=zeroValue391
 t212:=underlying397
 a212:=isAgg397
 z212:=sizeOf397
 v212:=zeroValue397
 t213:=underlying398
 a213:=isAgg398
 z213:=sizeOf398
 t232:=underlying436
 a232:=isAgg436
 z232:=sizeOf436
 v232:=zeroValue436
 t233:=underlying437
 a233:=isAgg437
 z233:=sizeOf437
 v233:=zeroValue437
 g15:=by kernel_rfl
 g16:=by kernel_rfl
 g17:=by kernel_rfl
 g18:=by kernel_rfl
 g19:=by kernel_rfl
 t80:=underlying180
 a80:=isAgg180
 z80:=sizeOf180
 v80:=zeroValue180
 i0:=by kernel_rfl
 i2:=by kernel_rfl
 i3:=by kernel_rfl
 i4:=by kernel_rfl
 i5:=by kernel_rfl
 i9:=by kernel_rfl
 i20:=by kernel_rfl
 i21:=by kernel_rfl
 i37:=by kernel_rfl
 i46:=by kernel_rfl
 i51:=by kernel_rfl
 i53:=by kernel_rfl
 i75:=by kernel_rfl
 i80:=by kernel_rfl
 i85:=by kernel_rfl
 i127:=by kernel_rfl
 i143:=by kernel_rfl
 i145:=by kernel_rfl
 i167:=by kernel_rfl
 i168:=by kernel_rfl
 i171:=by kernel_rfl
 i173:=by kernel_rfl
 i175:=by kernel_rfl
 i210:=by kernel_rfl
 i212:=by kernel_rfl
 i232:=by kernel_rfl
 i233:=by kernel_rfl
 m15:=by kernel_rfl
 m16:=by kernel_rfl
 m17:=by kernel_rfl
 m18:=by kernel_rfl
 m19:=by kernel_rfl
 c0:=by kernel_rfl
 c2:=by kernel_rfl
 c3:=by kernel_rfl
 c4:=by kernel_rfl
 c5:=by kernel_rfl
 c9:=by kernel_rfl
 c20:=by kernel_rfl
 c21:=by kernel_rfl
 c37:=by kernel_rfl
 c46:=by kernel_rfl
 c51:=by kernel_rfl
 c53:=by kernel_rfl
 c75:=by kernel_rfl
 c80:=by kernel_rfl
 c85:=by kernel_rfl
 c127:=by kernel_rfl
 c143:=by kernel_rfl
 c145:=by kernel_rfl
 c167:=by kernel_rfl
 c168:=by kernel_rfl
 c171:=by kernel_rfl
 c173:=by kernel_rfl
 c175:=by kernel_rfl
 c210:=by kernel_rfl
 c212:=by kernel_rfl
 c213:=by kernel_rfl
 c232:=by kernel_rfl
 c233:=by kernel_rfl }
open Go.RowKit in
theorem Tryz.strconv_ParseInt_10_at64_ok(s:ByteArray)(a:s.size<=9223372036854775806)(v:Int)(h:Lib.parseIntB 64 s.data.toList=.ok v)(w:World):Calls prog 217 #[.string s,.int .i64 10,.int .i64 64] w λe w'=>e=.returned (.tuple #[.int .i64 v,.nilIface])/\(w'=w \/ ∃ t,w'=Lib.bytesWorld w 5 t):=Any.strconv_ParseInt_10_at64_ok Tryz.laysC174 s a v h w
def Tryz.laysM157_ren:Go.Shelf.Ren:=⟨fun|157=>216|229=>261|199=>262|261=>332|311=>360|312=>361|n=>n,fun|9=>9|31=>251|3=>3|5=>5|4=>4|119=>335|0=>0|40=>337|152=>380|21=>21|154=>382|51=>346|141=>384|196=>409|193=>406|198=>411|49=>22|194=>407|201=>414|226=>430|46=>304|227=>431|n=>n,fun|0=>1|6=>3|n=>n⟩
theorem Tryz.laysM157:Go.Proofs.LaysM.n157 prog Tryz.laysM157_ren:={
 mixed:=by kernel_rfl
 f157:=Tryz.func216.trans (congrArg some (by kernel_rfl))
 f199:=Tryz.func262.trans (congrArg some (by kernel_rfl))
 f229:=Tryz.func261.trans (congrArg some (by kernel_rfl))
 f261:=Tryz.func332.trans (congrArg some (by kernel_rfl))
 f311:=Tryz.func360.trans (congrArg some (by kernel_rfl))
 f312:=Tryz.func361.trans (congrArg some (by kernel_rfl))
 t0:=underlying0
 a0:=isAgg0
 z0:=sizeOf0
 v0:=zeroValue0
 t3:=underlying3
 a3:=isAgg3
 z3:=sizeOf3
 v3:=zeroValue3
 t4:=underlying4
 a4:=isAgg4
 z4:=sizeOf4
 v4:=zeroValue4
 t5:=underlying5
 a5:=isAgg5
 z5:=sizeOf5
 v5:=zeroValue5
 t9:=underlying9
 a9:=isAgg9
 z9:=sizeOf9
 v9:=zeroValue9
 t21:=underlying21
 a21:=isAgg21
 z21:=sizeOf21
 v21:=zeroValue21
 t31:=underlying251
 a31:=isAgg251
 z31:=sizeOf251
 v31:=zeroValue251
 t40:=underlying337
 a40:=isAgg337
 z40:=sizeOf337
 v40:=zeroValue337
 t46:=underlying304
 a46:=isAgg304
 z46:=sizeOf304
 v46:=zeroValue304
 t49:=underlying22
 a49:=isAgg22
 z49:=sizeOf22
 v49:=zeroValue22
 t51:=underlying346
 a51:=isAgg346
 z51:=sizeOf346
 v51:=zeroValue346
 t119:=underlying335
 a119:=isAgg335
 z119:=sizeOf335
 t141:=underlying384
 a141:=isAgg384
 z141:=sizeOf384
 v141:=zeroValue384
 t152:=underlying380
 a152:=isAgg380
 z152:=sizeOf380
 v152:=zeroValue380
 t154:=underlying382
 a154:=isAgg382
 z154:=sizeOf382
 v154:=zeroValue382
 t193:=underlying406
 a193:=isAgg406
 z193:=sizeOf406
 v193:=zeroValue406
 t194:=underlying407
 a194:=isAgg407
 z194:=sizeOf407
 v194:=zeroValue407
 t196:=underlying409
 a196:=isAgg409
 z196:=sizeOf409
 v196:=zeroValue409
 t198:=underlying411
 a198:=isAgg411
 z198:=sizeOf411
 v198:=zeroValue411
 t201:=underlying414
 a201:=isAgg414
 z201:=sizeOf414
 v201:=zeroValue414
 t226:=underlying430
 a226:=isAgg430
 z226:=sizeOf430
 v226:=zeroValue430
 t227:=underlying431
 a227:=isAgg431
 z227:=sizeOf431
 v227:=zeroValue431
 g0:=by kernel_rfl
 g6:=by kernel_rfl
 i0:=by kernel_rfl
 i3:=by kernel_rfl
 i4:=by kernel_rfl
 i5:=by kernel_rfl
 i9:=by kernel_rfl
 i21:=by kernel_rfl
 i31:=by kernel_rfl
 i40:=by kernel_rfl
 i46:=by kernel_rfl
 i49:=by kernel_rfl
 i51:=by kernel_rfl
 i141:=by kernel_rfl
 i152:=by kernel_rfl
 i154:=by kernel_rfl
 i193:=by kernel_rfl
 i194:=by kernel_rfl
 i196:=by kernel_rfl
 i198:=by kernel_rfl
 i201:=by kernel_rfl
 i226:=by kernel_rfl
 i227:=by kernel_rfl
 m0:=by kernel_rfl
 m6:=by kernel_rfl }
open Go.RowKit Go.Lib in
theorem Tryz.strings_Fields_laid(s:ByteArray)(w:World)(d:s.size<4294967281)(a:∀(j:Nat) b,s.data.toList[j]?=some b->b.toNat<128)(c:Lib.TabIs prog w "strings.asciiSpace" .u8 Lib.asciiSpaceTab):Calls prog 216 #[.string s] w λe w' =>
  e=.returned (.slice (some ⟨w.heap.size,0,none⟩) (Lib.fields s.data.toList).length (Lib.fields s.data.toList).length)/\w'=w.alloc (.cells ((Lib.fields s.data.toList).map λl=>Value.string ⟨l.toArray⟩).toArray 9):=Any.strings_Fields_laid Tryz.laysM157 s w d a c
end Go.Proofs
