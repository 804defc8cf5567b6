/-
  Parts of a proof, joined.
-/
import Derived.Test.YthghjlinhokimaaGreatDoorZbA
import Derived.Test.YthghjlinhokimaaGreatDoorZb43
set_option linter.all false
set_option maxRecDepth 100000
set_option maxHeartbeats 6400000
open Option renaming none->G,some->A
open Go renaming World->u,Value->π,Calls->Δ,loadVar->bC,binOp->fG
open Bool renaming false->ξ,true->Γ
open Go.Proofs.Tryz renaming prog->ω
open Go.Act renaming put->ag
open List renaming replicate->ai
open Or renaming inl->aj
open Go.Result renaming andThen->aE
open Go.Value renaming oneCell'->bi,int->J,slice->κ,bool->ν,tuple->Ψ,agg->ac
open Go.Sem renaming run->bL
open Go.Program renaming fieldsOf->dX
open Go.IntKind renaming i64->Q,u16->Y,u8->au
open Go.Ending renaming returned->μ
open Go.Obj renaming cells->χ
namespace Go.Proofs
open Go.Shelf
def Tryz.laysC172_ren:Go.Shelf.Ren:=⟨fun|172=>170|244=>229|245=>230|247=>263|279=>267|280=>268|281=>269|282=>270|287=>333|316=>335|171=>104|205=>336|321=>362|322=>363|243=>177|246=>238|283=>276|284=>277|285=>278|286=>279|129=>341|317=>340|318=>342|319=>343|320=>344|337=>367|338=>368|n=>n,fun|9=>9|3=>3|75=>175|76=>176|4=>4|5=>5|167=>340|37=>26|0=>0|85=>287|2=>2|168=>341|53=>350|175=>385|46=>304|210=>391|127=>256|145=>419|143=>417|21=>21|171=>349|173=>353|212=>397|51=>346|20=>20|213=>398|232=>436|233=>437|80=>180|n=>n,fun|15=>4|16=>5|17=>6|18=>9|19=>10|n=>n⟩
theorem Tryz.laysC172:Go.Proofs.LaysC.n172 ω Tryz.laysC172_ren:={
 mixed:=by kernel_rfl
 f129:=Tryz.func341.trans (congrArg A (by kernel_rfl))
 f171:=Tryz.func104.trans (congrArg A (by kernel_rfl))
 f172:=Tryz.func170.trans (congrArg A (by kernel_rfl))
 f205:=Tryz.func336.trans (congrArg A (by kernel_rfl))
 f243:=Tryz.func177.trans (congrArg A (by kernel_rfl))
 f244:=Tryz.func229.trans (congrArg A (by kernel_rfl))
 f245:=Tryz.func230.trans (congrArg A (by kernel_rfl))
 f246:=Tryz.func238.trans (congrArg A (by kernel_rfl))
 f247:=Tryz.func263.trans (congrArg A (by kernel_rfl))
 f279:=Tryz.func267.trans (congrArg A (by kernel_rfl))
 f280:=Tryz.func268.trans (congrArg A (by kernel_rfl))
 f281:=Tryz.func269.trans (congrArg A (by kernel_rfl))
 f282:=Tryz.func270.trans (congrArg A (by kernel_rfl))
 f283:=Tryz.func276.trans (congrArg A (by kernel_rfl))
 f284:=Tryz.func277.trans (congrArg A (by kernel_rfl))
 f285:=Tryz.func278.trans (congrArg A (by kernel_rfl))
 f286:=Tryz.func279.trans (congrArg A (by kernel_rfl))
 f287:=Tryz.func333.trans (congrArg A (by kernel_rfl))
 f316:=Tryz.func335.trans (congrArg A (by kernel_rfl))
 f317:=Tryz.func340.trans (congrArg A (by kernel_rfl))
 f318:=Tryz.func342.trans (congrArg A (by kernel_rfl))
 f319:=Tryz.func343.trans (congrArg A (by kernel_rfl))
 f320:=Tryz.func344.trans (congrArg A (by kernel_rfl))
 f321:=Tryz.func362.trans (congrArg A (by kernel_rfl))
 f322:=Tryz.func363.trans (congrArg A (by kernel_rfl))
 f337:=Tryz.func367.trans (congrArg A (by kernel_rfl))
 f338:=Tryz.func368.trans (congrArg A (by kernel_rfl))
 t0:=underlying0
 a0:=isAgg0
 z0:=sizeOf0
 v0:=zeroValue0
 t2:=underlying2
 a2:=isAgg2
 z2:=sizeOf2
 v2:=zeroValue2
 t3:=underlying3
 a3:=isAgg3
 z3:=sizeOf3
 v3:=zeroValue3
 t4:=underlying4
 a4:=isAgg4
 z4:=sizeOf4
 v4:=zeroValue4
 t5:=underlying5
 a5:=isAgg5
 z5:=sizeOf5
 v5:=zeroValue5
 t9:=underlying9
 a9:=isAgg9
 z9:=sizeOf9
 v9:=zeroValue9
 t20:=underlying20
 a20:=isAgg20
 z20:=sizeOf20
 v20:=zeroValue20
 t21:=underlying21
 a21:=isAgg21
 z21:=sizeOf21
 v21:=zeroValue21
 t37:=underlying26
 a37:=isAgg26
 z37:=sizeOf26
 v37:=zeroValue26
 t46:=underlying304
 a46:=isAgg304
 z46:=sizeOf304
 v46:=zeroValue304
 t51:=underlying346
 a51:=isAgg346
 z51:=sizeOf346
 v51:=zeroValue346
 t53:=underlying350
 a53:=isAgg350
 z53:=sizeOf350
 v53:=zeroValue350
 t75:=underlying175
 a75:=isAgg175
 z75:=sizeOf175
 v75:=zeroValue175
 t76:=underlying176
 a76:=isAgg176
 z76:=sizeOf176
 v76:=zeroValue176
 t85:=underlying287
 a85:=isAgg287
 z85:=sizeOf287
 v85:=zeroValue287
 t127:=underlying256
 a127:=isAgg256
 z127:=sizeOf256
 v127:=zeroValue256
 t143:=underlying417
 a143:=isAgg417
 z143:=sizeOf417
 v143:=zeroValue417
 t145:=underlying419
 a145:=isAgg419
 z145:=sizeOf419
 v145:=zeroValue419
 t167:=underlying340
 a167:=isAgg340
 z167:=sizeOf340
 v167:=zeroValue340
 t168:=underlying341
 a168:=isAgg341
 z168:=sizeOf341
 v168:=zeroValue341
 t171:=underlying349
 a171:=isAgg349
 z171:=sizeOf349
 v171:=zeroValue349
 t173:=underlying353
 a173:=isAgg353
 z173:=sizeOf353
 v173:=zeroValue353
 t175:=underlying385
 a175:=isAgg385
 z175:=sizeOf385
 v175:=zeroValue385
 t210:=underlying391
 a210:=isAgg391
 z210:=sizeOf391
 v210:=zeroValue391
 t212:=underlying397
 a212:=isAgg397
 z212:=sizeOf397
 v212:=zeroValue397
 t213:=underlying398
 a213:=isAgg398
 z213:=sizeOf398
 t232:=underlying436
 a232:=isAgg436
 z232:=sizeOf436
 v232:=zeroValue436
 t233:=underlying437
 a233:=isAgg437
 z233:=sizeOf437
 v233:=zeroValue437
 g15:=by kernel_rfl
 g16:=by kernel_rfl
 g17:=by kernel_rfl
 g18:=by kernel_rfl
 g19:=by kernel_rfl
 t80:=underlying180
 a80:=isAgg180
 z80:=sizeOf180
 v80:=zeroValue180
 i0:=by kernel_rfl
 i2:=by kernel_rfl
 i3:=by kernel_rfl
 i4:=by kernel_rfl
 i5:=by kernel_rfl
 i9:=by kernel_rfl
 i20:=by kernel_rfl
 i21:=by kernel_rfl
 i37:=by kernel_rfl
 i46:=by kernel_rfl
 i51:=by kernel_rfl
 i53:=by kernel_rfl
 i75:=by kernel_rfl
 i76:=by kernel_rfl
 i80:=by kernel_rfl
 i85:=by kernel_rfl
 i127:=by kernel_rfl
 i143:=by kernel_rfl
 i145:=by kernel_rfl
 i167:=by kernel_rfl
 i168:=by kernel_rfl
 i171:=by kernel_rfl
 i173:=by kernel_rfl
 i175:=by kernel_rfl
 i210:=by kernel_rfl
 i212:=by kernel_rfl
 i232:=by kernel_rfl
 i233:=by kernel_rfl
 m15:=by kernel_rfl
 m16:=by kernel_rfl
 m17:=by kernel_rfl
 m18:=by kernel_rfl
 m19:=by kernel_rfl
 c0:=by kernel_rfl
 c2:=by kernel_rfl
 c3:=by kernel_rfl
 c4:=by kernel_rfl
 c5:=by kernel_rfl
 c9:=by kernel_rfl
 c20:=by kernel_rfl
 c21:=by kernel_rfl
 c37:=by kernel_rfl
 c46:=by kernel_rfl
 c51:=by kernel_rfl
 c53:=by kernel_rfl
 c75:=by kernel_rfl
 c76:=by kernel_rfl
 c80:=by kernel_rfl
 c85:=by kernel_rfl
 c127:=by kernel_rfl
 c143:=by kernel_rfl
 c145:=by kernel_rfl
 c167:=by kernel_rfl
 c168:=by kernel_rfl
 c171:=by kernel_rfl
 c173:=by kernel_rfl
 c175:=by kernel_rfl
 c210:=by kernel_rfl
 c212:=by kernel_rfl
 c213:=by kernel_rfl
 c232:=by kernel_rfl
 c233:=by kernel_rfl }
open Go.RowKit in
theorem Tryz.strconv_Atoi_ok(s:ByteArray)(a:s.size<=9223372036854775806)(v:Int)(h:Lib.atoiAll s.data.toList=.ok v)(w:u):Δ ω 170 #[.string s] w λe w'=>e=μ (Ψ #[J Q v,.nilIface])/\(w'=w \/ ∃ t,w'=Lib.bytesWorld w 5 t):=Any.strconv_Atoi_ok Tryz.laysC172 s a v h w
end Go.Proofs
namespace Go.Proofs.YthghjlinhokimaaGreatDoor
open Go.ChangeShapes Go.WideShapes Go.ChangeAt Go.RowKit Go.Proofs.Tryz
/-! ### sounds -/
theorem zlm{s:Sd}(h:s.fit)(n:Nat):((lB s n).length:Int)=(if s.w<n then (n-s.w-1)/16+1 else 0)/\(s.ticks n).w=(if (n:Int)<=s.w then s.w-n else 15-(n-s.w-1)%16):=by
 have d:=h.w;induction n with
 | zero=>simp[lB,Sd.ticks];omega
 | succ n c =>
  obtain⟨b,i2⟩:=c;have e:=(Sd.ticks_fit h n).w;simp only[lB,az,Sd.ticks,Sd.tick];by_cases a:(s.ticks n).w=0
  ·have:(one (s.ticks n)).length=1:=by unfold one;rw[am a];rfl
   rw[this,am a];rw[a] at i2;constructor
   ·split at i2 <;> split at b <;> split <;> omega
   ·split at i2 <;> split <;> omega
  ·have:(one (s.ticks n)).length=0:=by unfold one;rw[ae a];rfl
   rw[this,ae a];constructor
   ·split at i2 <;> split at b <;> split <;> omega
   ·split at i2 <;> split <;> omega
theorem tX:aP.isSl:=λj a=>by rcases five a with rfl|rfl|rfl|rfl|rfl <;> exact⟨_,_,_,D⟩
/-! ### what no processor touches: where the beam is, when the next sample comes -/
/-! ### how many samples -/
theorem zw4(s s':Sd)(h:s.w=s'.w):(if s.w=0 then lB s 1 else []).length=(one s').length:=by
 unfold one;rw[h];split
 ·rename_i a
  show ([]++one s).length=_;unfold one;rw[am (h.trans a)];rfl
 ·rfl
theorem zgx(k0:Cs)(hb:BOk k0.s.M.b.l k0.s.M.b.a k0.s.M.b.f)(c:k0.s.M.b.f<=19000):∀ j:Nat,j<=20000->(k0.clocks j).sm.length=k0.sm.length+(lB k0.s.M.s j).length
 | 0,_=>by simp[Cs.clocks,lB]
 | j+1,i=>by
  have d:=zgx k0 hb c j (by omega);have g:=zR k0 hb c j (by omega);obtain⟨k,h⟩:∃ k,k=k0.clocks j:=⟨_,D⟩
  have e:k0.clocks (j+1)=k.clock:=by rw[h];rfl
  rw[<- h] at d g;rw[e];show (k.sm++(k.s.M.pressed k.co).sample).length=_;have h1:((k.s.M.pressed k.co).sample).length=(one (k0.s.M.s.ticks j)).length:=zw4 _ _ ((zb7 k.co k.s.M).w.trans g.w);rw[az,d,h1];simp only[lB,az];omega
/-! ### which lines -/
def lh(l a f:Int)(j:Nat):Option (Int × Int):=if kA l a j=0/\lC l a j<8 then A (lS l a f j,lC l a j) else G
def gI(l a f:Int):Nat->List (Int × Int)
 | 0=>[]
 | j+1=>gI l a f j++(lh l a f j).toList
theorem zeM(k0:Cs)(hb:BOk k0.s.M.b.l k0.s.M.b.a k0.s.M.b.f)(d:k0.s.M.b.f<=19000)(g:k0.ln=[]):∀ j:Nat,j<=20000->(k0.clocks j).ln.map (λx=>(x.f,x.l))=gI k0.s.M.b.l k0.s.M.b.a k0.s.M.b.f j
 | 0,_=>by simp[Cs.clocks,gI,g]
 | j+1,m=>by
  have h:=zeM k0 hb d g j (by omega);have c:=zR k0 hb d j (by omega);obtain⟨k,i⟩:∃ k,k=k0.clocks j:=⟨_,D⟩
  have e:k0.clocks (j+1)=k.clock:=by rw[i];rfl
  rw[<- i] at h c;rw[e];show (k.ln++(k.s.M.pressed k.co).line).map _=_;have hp:=zb7 k.co k.s.M;have e1:=hp.l.trans c.l;have e2:=hp.a.trans c.a;have e3:=hp.f.trans c.f;rw[gQ,h];simp only[gI];congr 1;unfold Mach.line lh;rw[e1,e2,e3];split <;> rfl
/-! ### who is held, and waits -/
section
variable {l a f : Int}
theorem zuE{p q:Nat}(h:p<=q)(b:∀ j:Nat,p<=j->j<q->kA l a j≠0):gI l a f q=gI l a f p:=by
 induction q with
 | zero=>have:p=0:=by omega
         rw[this]
 | succ q c =>
  by_cases d:p=q+1
  ·rw[d]
  ·show gI l a f q++(lh l a f q).toList=_
   have h1:lh l a f q=G:=by
    unfold lh;rw[ae (λe=>b q (by omega) (by omega) e.1)]
   rw[h1,c (by omega) (λj h1 h2=>b j h1 (by omega))];simp
structure Beg (l a : Int) (k : Nat) : Prop where
 z:kA l a k=0
 pos:0<=l*64+a
theorem zxa{k:Nat}(h:Beg l a k):Beg l a (k+64)/\gI l a f (k+64)=gI l a f k++(lh l a f k).toList:=by
 have b:=h.z;have h1:=h.pos;unfold kA at b;refine⟨⟨by unfold kA;omega,h1⟩,?_⟩;rw[zuE (p:=k+1) (by omega) (λj d c=>by unfold kA;omega)];rfl
end
theorem zxb(a0 a1 a2 a3 a4 a5 h j k a9 a b c e f g:Int)(d:Nat)(w:u):(Op.equalIn (d+2) 66 (ac #[J au a0,J au a1,J au a2,J au a3,J au a4,J au a5,J au h,J au j,J au k,J au a9,J au a,J au b,J au c,J au e,J au f,J au g]) (ac #[J au a0,J au a1,J au a2,J au a3,J au a4,J au a5,J au h,J au j,J au k,J au a9,J au a,J au b,J au c,J au e,J au f,J au g])).run ω w=.ok Γ w:=by
 have u3:=underlying5;have x3:=isAgg5;have z3:=sizeOf5;have l:Tryz.prog.cellsOf 5=1:=by kernel_rfl
 have m:(Tryz.prog.info? 5).isSome=Γ:=by kernel_rfl
 obtain⟨i,hi⟩:=eE.1 m;rw[gY w (d+1) _ _ underlying66 hi,l];simp only[List.range,List.range.loop,Op.eqItems];go_simp
theorem zol(f l:Int)(a0 a1 a2 a3 a4 a5 h i j a9 a b c d e g:Int)(w:u):(fG .eql 68 (ac #[J Q f,J Q l,J au a0,J au a1,J au a2,J au a3,J au a4,J au a5,J au h,J au i,J au j,J au a9,J au a,J au b,J au c,J au d,J au e,J au g]) (ac #[J Q f,J Q l,J au a0,J au a1,J au a2,J au a3,J au a4,J au a5,J au h,J au i,J au j,J au a9,J au a,J au b,J au c,J au d,J au e,J au g])).run ω w=.ok (ν Γ) w:=by
 have u3:=underlying3;have x3:=isAgg3;have z3:=sizeOf3;have m:=isAgg66;have z5:=sizeOf66;have n:=zxb a0 a1 a2 a3 a4 a5 h i j a9 a b c d e g 9997;have k:Tryz.prog.underlying 68=A (.struct (Tryz.prog.fieldsOf 68)):=by kernel_rfl
 have hp:Tryz.prog.stoodInHeld 68=ξ:=by kernel_rfl
 rw[dK,show (10000:Nat)=9999+1 from D,eI w 9999 68 _ _ k hp];simp only[dX,underlying68];go_simp
theorem zom(c a v:Int)(w:u):(fG .eql 104 (ac #[J Q c,J Q a,J au v]) (ac #[J Q c,J Q a,J au v])).run ω w=.ok (ν Γ) w:=by
 have u3:=underlying3;have x3:=isAgg3;have z3:=sizeOf3;have d:=underlying5;have e:=isAgg5;have z5:=sizeOf5;have b:Tryz.prog.underlying 104=A (.struct (Tryz.prog.fieldsOf 104)):=by kernel_rfl
 have hp:Tryz.prog.stoodInHeld 104=ξ:=by kernel_rfl
 rw[dK,show (10000:Nat)=9999+1 from D,eI w 9999 104 _ _ b hp];simp only[dX,underlying104];go_simp
def oU(x:Lin):List π:=J Q x.f :: J Q x.l::bE x.px
def oV(x:Wt):List π:=[J Q x.c,J Q x.a,J au x.v]
theorem zrV(x:Lin)(w:u):(fG .neq 68 (ac (oU x).toArray) (ac (oU x).toArray)).run ω w=.ok (ν ξ) w:=zgz (zol x.f x.l (x.px 0) (x.px 1) (x.px 2) (x.px 3) (x.px 4) (x.px 5) (x.px 6) (x.px 7) (x.px 8) (x.px 9) (x.px 10) (x.px 11) (x.px 12) (x.px 13) (x.px 14) (x.px 15) w)
theorem zon(x:Wt)(w:u):(fG .neq 104 (ac (oV x).toArray) (ac (oV x).toArray)).run ω w=.ok (ν ξ) w:=zgz (zom x.c x.a x.v w)
theorem zoo:∀(l:List Lin) (i:Nat) (x:Lin),l[i]?=A x->∀(j:Nat) (v:π),(oU x)[j]?=A v->(nj l)[i*18+j]?=A v
 | [],i,x,h=>by simp at h
 | y::l,0,x,h=>λj v a=>by
  simp only[bv,aZ] at h;subst h;rw[i8,aX];show (oU y++nj l)[j]?=_;rw[bc (ay.1 a).1];exact a
 | y::l,i+1,x,h=>λj v a=>by
  rw[bN] at h;have:=zoo l i x h j v a;show (oU y++nj l)[(i+1)*18+j]?=_;have b:(oU y).length=18:=by simp[oU,pw]
  rw[aY (by rw[b];omega),b,show (i+1)*18+j-18=i*18+j by omega];exact this
theorem zop:∀(l:List Wt) (i:Nat) (x:Wt),l[i]?=A x->∀(j:Nat) (v:π),(oV x)[j]?=A v->(oC l)[i*3+j]?=A v
 | [],i,x,h=>by simp at h
 | y::l,0,x,h=>λj v a=>by
  simp only[bv,aZ] at h;subst h;rw[i8,aX];show (oV y++oC l)[j]?=_;rw[bc (ay.1 a).1];exact a
 | y::l,i+1,x,h=>λj v a=>by
  rw[bN] at h;have:=zop l i x h j v a;show (oV y++oC l)[(i+1)*3+j]?=_;rw[aY (by simp[oV];omega),show (oV y).length=3 from D,show (i+1)*3+j-3=i*3+j by omega];exact this
theorem zql:(Tryz.prog.info? 68).map (·.size)=A 18:=by kernel_rfl
theorem zqm:(Tryz.prog.info? 104).map (·.size)=A 3:=by kernel_rfl
theorem Lk.sameLn(f v2:π)(l:List Lin)(w:u)(h1:kO w f l.length 18 (nj l))(h2:kO w v2 l.length 18 (nj l))(t:l.length<=1000000):Δ ω 39 #[f,v2] w λe w'=>e=μ (ν Γ)/\Below w.heap.size w w':=by
 obtain⟨a1,k1,e1⟩:=h1.len;obtain⟨a2,k2,e2⟩:=h2.len;subst e1 e2;have m:=hid h1;have n:=hid h2;clear h1 h2;go_enter func39,ntmps39;go_wp2;go_loopw [13] (λi wr=>∃ j:Nat,j<=l.length/\i=J Q j/\Below w.heap.size w wr) (λi _=>l.length-(intOf i).toNat)
 case atStart=>exact⟨0,bh _,D,aR w⟩
 case round =>
  obtain⟨j,v,rfl,hb⟩:=hrel;have g:=hid hb;by_cases b:j<l.length
  ·have h:(j:Int)<l.length:=by omega
   have o:(0:Int)<=j:=by omega
   have p:(j:Int)<1000000:=by omega
   obtain⟨x,d⟩:∃ x,l[j]?=A x:=⟨_,aq b⟩
   obtain⟨g1,o1,c1,q1,y,r1⟩:=(m.out.kept hb).range b (zoo l j x d);obtain⟨k,o2,c2,q,z2,r2⟩:=(n.out.kept hb).range b (zoo l j x d);cases q1;cases q;have r:=zrV x;clear hb d;go_upto_region 6 with fail
   refine wp_region_held_drew (S:=λw'=>w'.rangeAt g1 (o1+j*18) (oU x)/\w'.rangeAt k (o2+j*18) (oU x)) (by kernel_rfl) ⟨r1,r2⟩ ?_;intro a;refine dy 0 ⟨A 16,_,_,_,_,G⟩ a ?_;simp only[ag,xA,xB,xC];refine dy 1 ⟨A 17,_,_,_,_,G⟩ a ?_;simp only[ag,xA,xB,xC];refine dy 2 ⟨A 18,_,_,_,_,G⟩ a ?_;simp only[ag,xA,xB,xC];refine jW 3 (ac (oU x).toArray) D (λw' c=>ml 68 _ D g1 (o1+j*18) D (oU x) _ c.1 underlying68 D zql) a ?_;refine dy 4 ⟨A 20,_,_,_,_,G⟩ a ?_;simp only[ag,xA,xB,xC];refine dy 5 ⟨A 21,_,_,_,_,G⟩ a ?_;simp only[ag,xA,xB,xC];refine dy 6 ⟨A 22,_,_,_,_,G⟩ a ?_;simp only[ag,xA,xB,xC];refine jW 7 (ac (oU x).toArray) D (λw' c=>ml 68 _ D k (o2+j*18) D (oU x) _ c.2 underlying68 D zql) a ?_;refine dy 8 ⟨A 24,_,_,_,_,G⟩ a ?_;simp only[ag,xA,xB,xC];refine wpAnyH_done (by kernel_rfl) ?_ _;clear a r1 r2;go_wp2;exact⟨⟨j+1,by omega,by simp,g.out.drew⟩,by simp[intOf];omega⟩
  ·have s:¬ (j:Int)<l.length:=by omega
   clear hb;go_wp2;go_ret;exact⟨D,g.out⟩
theorem Lk.sameWr(f v2:π)(l:List Wt)(w:u)(h1:kO w f l.length 3 (oC l))(h2:kO w v2 l.length 3 (oC l))(t:l.length<=1000000):Δ ω 40 #[f,v2] w λe w'=>e=μ (ν Γ)/\Below w.heap.size w w':=by
 obtain⟨a1,k1,e1⟩:=h1.len;obtain⟨a2,k2,e2⟩:=h2.len;subst e1 e2;have m:=hid h1;have n:=hid h2;clear h1 h2;go_enter func40,ntmps40;go_wp2;go_loopw [13] (λi wr=>∃ j:Nat,j<=l.length/\i=J Q j/\Below w.heap.size w wr) (λi _=>l.length-(intOf i).toNat)
 case atStart=>exact⟨0,bh _,D,aR w⟩
 case round =>
  obtain⟨j,v,rfl,hb⟩:=hrel;have g:=hid hb;by_cases b:j<l.length
  ·have h:(j:Int)<l.length:=by omega
   have o:(0:Int)<=j:=by omega
   have p:(j:Int)<1000000:=by omega
   obtain⟨x,d⟩:∃ x,l[j]?=A x:=⟨_,aq b⟩
   obtain⟨g1,o1,c1,q1,y,r1⟩:=(m.out.kept hb).range b (zop l j x d);obtain⟨k,o2,c2,q,z2,r2⟩:=(n.out.kept hb).range b (zop l j x d);cases q1;cases q;have r:=zon x;clear hb d;go_upto_region 6 with fail
   refine wp_region_held_drew (S:=λw'=>w'.rangeAt g1 (o1+j*3) (oV x)/\w'.rangeAt k (o2+j*3) (oV x)) (by kernel_rfl) ⟨r1,r2⟩ ?_;intro a;refine dy 0 ⟨A 16,_,_,_,_,G⟩ a ?_;simp only[ag,xA,xB,xC];refine dy 1 ⟨A 17,_,_,_,_,G⟩ a ?_;simp only[ag,xA,xB,xC];refine dy 2 ⟨A 18,_,_,_,_,G⟩ a ?_;simp only[ag,xA,xB,xC];refine jW 3 (ac (oV x).toArray) D (λw' c=>ml 104 _ D g1 (o1+j*3) D (oV x) _ c.1 underlying104 D zqm) a ?_;refine dy 4 ⟨A 20,_,_,_,_,G⟩ a ?_;simp only[ag,xA,xB,xC];refine dy 5 ⟨A 21,_,_,_,_,G⟩ a ?_;simp only[ag,xA,xB,xC];refine dy 6 ⟨A 22,_,_,_,_,G⟩ a ?_;simp only[ag,xA,xB,xC];refine jW 7 (ac (oV x).toArray) D (λw' c=>ml 104 _ D k (o2+j*3) D (oV x) _ c.2 underlying104 D zqm) a ?_;refine dy 8 ⟨A 24,_,_,_,_,G⟩ a ?_;simp only[ag,xA,xB,xC];refine wpAnyH_done (by kernel_rfl) ?_ _;clear a r1 r2;go_wp2;exact⟨⟨j+1,by omega,by simp,g.out.drew⟩,by simp[intOf];omega⟩
  ·have s:¬ (j:Int)<l.length:=by omega
   clear hb;go_wp2;go_ret;exact⟨D,g.out⟩
structure ShAt (w : u) (v1 v2 v3 : π) (ln : List Lin) (sm : List UInt8) (ws : List Wt) : Prop where
 ln:kO w v1 ln.length 18 (nj ln)
 sm:sliceAt w v2 sm
 ws:kO w v3 ws.length 3 (oC ws)
theorem ShAt.kept{w w1:u}{a v2 v3:π}{ln:List Lin}{sm:List UInt8}{ws:List Wt}(h:ShAt w a v2 v3 ln sm ws)(hb:Below w.heap.size w w1):ShAt w1 a v2 v3 ln sm ws:=⟨h.ln.kept hb,h.sm.kept hb,h.ws.kept hb⟩
theorem Lk.sameShown(i v2 v3 u1 u2 u3:π)(ln:List Lin)(sm:List UInt8)(ws:List Wt)(w:u)(h:ShAt w i v2 v3 ln sm ws)(k:ShAt w u1 u2 u3 ln sm ws)(h1:ln.length<=1000000)(h3:ws.length<=1000000):Δ ω 14 #[ac #[i,v2,v3],ac #[u1,u2,u3]] w λe w'=>e=μ (ν Γ)/\Below w.heap.size w w':=by
 obtain⟨a1,k1,e1⟩:=h.ln.len;obtain⟨a2,k2,e2⟩:=tV h.sm;obtain⟨a3,j,e3⟩:=h.ws.len;obtain⟨b1,m1,f1⟩:=k.ln.len;obtain⟨b2,l,f2⟩:=tV k.sm;obtain⟨b3,m,f3⟩:=k.ws.len;subst e1 e2 e3 f1 f2 f3;have H:=hid h;have K:=hid k;have c:=hid h1;have d:=hid h3;clear h k h1 h3;go_enter func14,ntmps14;go_wp2_with (first
  | (go_at_call 39;refine(Lk.sameLn _ _ ln _ (H.out.kept (stA (stA (aR w) _) _)).ln (K.out.kept (stA (stA (aR w) _) _)).ln c.out).mono ?_;rintro e w1 ⟨rfl,b⟩;have a:=hid (bw (stA (stA (aR w) (χ #[κ a1 ln.length k1,κ a2 sm.length k2,κ a3 ws.length j] 47)) (χ #[κ b1 ln.length m1,κ b2 sm.length l,κ b3 ws.length m] 47)) b);obtain⟨n,o⟩:=cj b;have p:w.heap.size+1<w1.heap.size:=by have:=b.size;simp at this;omega)
  | (go_at_call 38;refine(zlo _ _ sm sm _ (H.out.kept a.out).sm (K.out.kept a.out).sm).mono ?_;rw[o9];rintro e w2 ⟨rfl,rfl⟩)
  | (go_at_call 40;refine(Lk.sameWr _ _ ws _ (H.out.kept a.out).ws (K.out.kept a.out).ws d.out).mono ?_;rintro e q ⟨rfl,f⟩;have g:=hid (bw a.out f)))
 go_ret;exact⟨D,g.out⟩
theorem zxq(l1 l2:List UInt8)(h:¬ (l1.length<=1024/\l2.length<=1024)):(dr l1 l2).chk=2:=by
 unfold Mach.chk;exact ae h
theorem zxr(l1 l2:List UInt8)(h1:l1.length<=9223372036854775807)(h2:l2.length<=9223372036854775807):∀ j,j<5->((dr l1 l2).byt j).length<=9223372036854775807:=λj a=>by
 rcases five a with rfl|rfl|rfl|rfl|rfl
 ·exact h1
 ·exact h2
 ·show (ai 128 (0:UInt8)).length<=_;rw[iN];omega
 ·show (ai 64 (0:UInt8)).length<=_;rw[iN];omega
 ·show (ai 256 (0:UInt8)).length<=_;rw[iN];omega
theorem zY{ι:u}{b:Nat}(h:Bx ι b (υ aD aP)):Bx (ι.setCells b 0 (υ aD aP)) b (υ aD aP):=by
 have a:=h.puts 0 (υ aD aP) (by omega);rw[mK _ _ D] at a;exact a
theorem zsc(l1 l2:List UInt8)(F v2:π)(w:u)(h1:sliceAt w F l1)(h2:sliceAt w v2 l2)(B:l1.length<=9223372036854775807)(E:l2.length<=9223372036854775807)(hc:¬ (l1.length<=1024/\l2.length<=1024)):Δ ω 37 #[F,v2] w λe w'=>e=μ (Ψ #[ac (υ aD aP).toArray,J Q 2])/\Below w.heap.size w w':=by
 obtain⟨a1,c1,e1⟩:=tV h1;obtain⟨a2,c2,e2⟩:=tV h2;subst e1 e2;have t:=hid h1;have x:=hid h2;have y:=hid (Bx.new w (υ aD aP) 41 (b:=w.heap.size) D);have m:=hid (zxq l1 l2 hc);have z:=hid (zxr l1 l2 B E);clear h1 h2 B E hc;go_enter func37,ntmps37;go_wp2;refine wp_region_held_drew (S:=λ_=>True) (by kernel_rfl) trivial ?_;intro _;refine bH 0 trivial ?_;refine bH 1 trivial ?_;refine wpAnyH_ready (rs:=[2,3,4]) (by kernel_rfl) (by simp) ?_;refine lD (op:=⟨A 11,_,_,_,_,G⟩) D D 26 _ _ D (J Q 128) (J Q 128) _ D D (lf _ (w.heap.size+1) (by simp)) trivial ?_ (lD (op:=⟨A 12,_,_,_,_,G⟩) D D 26 _ _ D (J Q 64) (J Q 64) _ D D (oq _ (w.heap.size+1) (by simp)) trivial ?_ (lD (op:=⟨A 13,_,_,_,_,G⟩) D D 26 _ _ D (J Q 256) (J Q 256) _ D D (si _ (w.heap.size+1) (by simp)) trivial ?_ AllReadyH.nil));all_goals simp only[ag,xA,xB,xC]
 ·refine wpAnyH_ready (rs:=[3,4]) (by kernel_rfl) (by simp) ?_
  refine lD (op:=⟨A 12,_,_,_,_,G⟩) D D 26 _ _ D (J Q 64) (J Q 64) _ D D (oq _ (w.heap.size+1+1) (by simp)) trivial ?_ (lD (op:=⟨A 13,_,_,_,_,G⟩) D D 26 _ _ D (J Q 256) (J Q 256) _ D D (si _ (w.heap.size+1+1) (by simp)) trivial ?_ AllReadyH.nil);all_goals simp only[ag,xA,xB,xC]
  ·refine wpAnyH_ready (rs:=[4]) (by kernel_rfl) (by simp) ?_
   refine lD (op:=⟨A 13,_,_,_,_,G⟩) D D 26 _ _ D (J Q 256) (J Q 256) _ D D (si _ (w.heap.size+1+1+1) (by simp)) trivial ?_ AllReadyH.nil;simp only[ag,xA,xB,xC];refine kN (NF w l1 l2 ⟨κ a1 l1.length c1,κ a2 l2.length c2,κ (A ⟨_,0,G⟩) 128 128,κ (A ⟨_,0,G⟩) 64 64,κ (A ⟨_,0,G⟩) 256 256⟩) (NF.of (b1:=w.heap.size+1) (b2:=w.heap.size+1+1) (b3:=w.heap.size+1+1+1) t.out x.out ?_ ?_ ?_ ?_ ?_) ?_
   ·repeat' (first|exact aR _|refine di ?_|refine stA ?_ _)
   ·repeat' (first|exact y.out|refine Bx.drew ?_|refine Bx.over ?_ _)
   ·repeat' (first|exact Bx.new _ (ai 128 (J au 0)) _ (by simp)|refine Bx.drew ?_|refine Bx.over ?_ _)
   ·repeat' (first|exact Bx.new _ (ai 64 (J au 0)) _ (by simp)|refine Bx.drew ?_|refine Bx.over ?_ _)
   ·repeat' (first|exact Bx.new _ (ai 256 (J au 0)) _ (by simp)|refine Bx.drew ?_|refine Bx.over ?_ _)
   intro ι q;have l:=hid q;clear q;refine jW 5 (ac (υ (dr l1 l2) ⟨κ a1 l1.length c1,κ a2 l2.length c2,κ (A ⟨w.heap.size+1,0,G⟩) 128 128,κ (A ⟨w.heap.size+1+1,0,G⟩) 64 64,κ (A ⟨w.heap.size+1+1+1,0,G⟩) 256 256⟩).toArray) D (λw' _=>rt 41 2 3 4 5 6 14 _ _ _ _ _ _ D _ _ _ _ _ _ _ D D D D D D (rr a1 a2 l1.length c1 l2.length c2 (w.heap.size+1) (w.heap.size+1+1) (w.heap.size+1+1+1) l1 l2 w')) trivial ?_;refine gy 6 (λK r=>?_);go_simp;go_at_call 56
   refine(yl (dr l1 l2) _ _ l.out.sl.lens z.out (by rw[m.out];decide)).mono ?_;rw[m.out];rintro e w1 ⟨rfl,a⟩;have d:=hid (bw l.out.low a);have f:=hid (l.out.res.kept a);clear a;try go_wp2_with fail
   refine gL r trivial (λ_=>?_);clear r K l;refine bH 7 trivial ?_;refine bH 8 trivial ?_;refine bH 9 trivial ?_;refine bH 10 trivial ?_;refine bH 11 trivial ?_;refine wpAnyH_done (by kernel_rfl) ?_ _;refine Pl.cutE (λX=>Below w.heap.size w X/\Bx X w.heap.size (υ aD aP)) ⟨d.out,f.out⟩ ?_;rintro X ⟨g,h⟩;have n:=hid g;have i:=hid h;clear g h d f;go_wp2_with (refine wpList_store_mid D 41 _ _ D w.heap.size 0 (υ aD aP).toArray D D (i.out.there 0 75 (by rw[dG];omega)) cn (iq _ _ tX) ?_;refine Pl.cutL (λV=>Below w.heap.size w V/\Bx V w.heap.size (υ aD aP)) ⟨Bl.puts n.out (ψ _) _,zY i.out⟩ ?_;rintro V ⟨j,k⟩;have o:=hid j;have p:=hid k;clear j k)
   have s:=vQ _ _ p.out.c;refine Ξ (v:=Ψ #[ac (υ aD aP).toArray,J Q 2]) ?_ D ⟨D,o.out⟩;simp only[results,results37];simp;show (aE (bL ω (bC 41 ⟨w.heap.size,0,G⟩) V) _)=_;rw[s];rfl
  ·refine wpAnyH_ready (rs:=[3]) (by kernel_rfl) (by simp) ?_
   refine lD (op:=⟨A 12,_,_,_,_,G⟩) D D 26 _ _ D (J Q 64) (J Q 64) _ D D (oq _ (w.heap.size+1+1+1) (by simp)) trivial ?_ AllReadyH.nil;simp only[ag,xA,xB,xC];refine kN (NF w l1 l2 ⟨κ a1 l1.length c1,κ a2 l2.length c2,κ (A ⟨_,0,G⟩) 128 128,κ (A ⟨_,0,G⟩) 64 64,κ (A ⟨_,0,G⟩) 256 256⟩) (NF.of (b1:=w.heap.size+1) (b2:=w.heap.size+1+1+1) (b3:=w.heap.size+1+1) t.out x.out ?_ ?_ ?_ ?_ ?_) ?_
   ·repeat' (first|exact aR _|refine di ?_|refine stA ?_ _)
   ·repeat' (first|exact y.out|refine Bx.drew ?_|refine Bx.over ?_ _)
   ·repeat' (first|exact Bx.new _ (ai 128 (J au 0)) _ (by simp)|refine Bx.drew ?_|refine Bx.over ?_ _)
   ·repeat' (first|exact Bx.new _ (ai 64 (J au 0)) _ (by simp)|refine Bx.drew ?_|refine Bx.over ?_ _)
   ·repeat' (first|exact Bx.new _ (ai 256 (J au 0)) _ (by simp)|refine Bx.drew ?_|refine Bx.over ?_ _)
   intro ι q;have l:=hid q;clear q;refine jW 5 (ac (υ (dr l1 l2) ⟨κ a1 l1.length c1,κ a2 l2.length c2,κ (A ⟨w.heap.size+1,0,G⟩) 128 128,κ (A ⟨w.heap.size+1+1+1,0,G⟩) 64 64,κ (A ⟨w.heap.size+1+1,0,G⟩) 256 256⟩).toArray) D (λw' _=>rt 41 2 3 4 5 6 14 _ _ _ _ _ _ D _ _ _ _ _ _ _ D D D D D D (rr a1 a2 l1.length c1 l2.length c2 (w.heap.size+1) (w.heap.size+1+1+1) (w.heap.size+1+1) l1 l2 w')) trivial ?_;refine gy 6 (λK r=>?_);go_simp;go_at_call 56
   refine(yl (dr l1 l2) _ _ l.out.sl.lens z.out (by rw[m.out];decide)).mono ?_;rw[m.out];rintro e w1 ⟨rfl,a⟩;have d:=hid (bw l.out.low a);have f:=hid (l.out.res.kept a);clear a;try go_wp2_with fail
   refine gL r trivial (λ_=>?_);clear r K l;refine bH 7 trivial ?_;refine bH 8 trivial ?_;refine bH 9 trivial ?_;refine bH 10 trivial ?_;refine bH 11 trivial ?_;refine wpAnyH_done (by kernel_rfl) ?_ _;refine Pl.cutE (λX=>Below w.heap.size w X/\Bx X w.heap.size (υ aD aP)) ⟨d.out,f.out⟩ ?_;rintro X ⟨g,h⟩;have n:=hid g;have i:=hid h;clear g h d f;go_wp2_with (refine wpList_store_mid D 41 _ _ D w.heap.size 0 (υ aD aP).toArray D D (i.out.there 0 75 (by rw[dG];omega)) cn (iq _ _ tX) ?_;refine Pl.cutL (λV=>Below w.heap.size w V/\Bx V w.heap.size (υ aD aP)) ⟨Bl.puts n.out (ψ _) _,zY i.out⟩ ?_;rintro V ⟨j,k⟩;have o:=hid j;have p:=hid k;clear j k)
   have s:=vQ _ _ p.out.c;refine Ξ (v:=Ψ #[ac (υ aD aP).toArray,J Q 2]) ?_ D ⟨D,o.out⟩;simp only[results,results37];simp;show (aE (bL ω (bC 41 ⟨w.heap.size,0,G⟩) V) _)=_;rw[s];rfl
 ·refine wpAnyH_ready (rs:=[2,4]) (by kernel_rfl) (by simp) ?_
  refine lD (op:=⟨A 11,_,_,_,_,G⟩) D D 26 _ _ D (J Q 128) (J Q 128) _ D D (lf _ (w.heap.size+1+1) (by simp)) trivial ?_ (lD (op:=⟨A 13,_,_,_,_,G⟩) D D 26 _ _ D (J Q 256) (J Q 256) _ D D (si _ (w.heap.size+1+1) (by simp)) trivial ?_ AllReadyH.nil);all_goals simp only[ag,xA,xB,xC]
  ·refine wpAnyH_ready (rs:=[4]) (by kernel_rfl) (by simp) ?_
   refine lD (op:=⟨A 13,_,_,_,_,G⟩) D D 26 _ _ D (J Q 256) (J Q 256) _ D D (si _ (w.heap.size+1+1+1) (by simp)) trivial ?_ AllReadyH.nil;simp only[ag,xA,xB,xC];refine kN (NF w l1 l2 ⟨κ a1 l1.length c1,κ a2 l2.length c2,κ (A ⟨_,0,G⟩) 128 128,κ (A ⟨_,0,G⟩) 64 64,κ (A ⟨_,0,G⟩) 256 256⟩) (NF.of (b1:=w.heap.size+1+1) (b2:=w.heap.size+1) (b3:=w.heap.size+1+1+1) t.out x.out ?_ ?_ ?_ ?_ ?_) ?_
   ·repeat' (first|exact aR _|refine di ?_|refine stA ?_ _)
   ·repeat' (first|exact y.out|refine Bx.drew ?_|refine Bx.over ?_ _)
   ·repeat' (first|exact Bx.new _ (ai 128 (J au 0)) _ (by simp)|refine Bx.drew ?_|refine Bx.over ?_ _)
   ·repeat' (first|exact Bx.new _ (ai 64 (J au 0)) _ (by simp)|refine Bx.drew ?_|refine Bx.over ?_ _)
   ·repeat' (first|exact Bx.new _ (ai 256 (J au 0)) _ (by simp)|refine Bx.drew ?_|refine Bx.over ?_ _)
   intro ι q;have l:=hid q;clear q;refine jW 5 (ac (υ (dr l1 l2) ⟨κ a1 l1.length c1,κ a2 l2.length c2,κ (A ⟨w.heap.size+1+1,0,G⟩) 128 128,κ (A ⟨w.heap.size+1,0,G⟩) 64 64,κ (A ⟨w.heap.size+1+1+1,0,G⟩) 256 256⟩).toArray) D (λw' _=>rt 41 2 3 4 5 6 14 _ _ _ _ _ _ D _ _ _ _ _ _ _ D D D D D D (rr a1 a2 l1.length c1 l2.length c2 (w.heap.size+1+1) (w.heap.size+1) (w.heap.size+1+1+1) l1 l2 w')) trivial ?_;refine gy 6 (λK r=>?_);go_simp;go_at_call 56
   refine(yl (dr l1 l2) _ _ l.out.sl.lens z.out (by rw[m.out];decide)).mono ?_;rw[m.out];rintro e w1 ⟨rfl,a⟩;have d:=hid (bw l.out.low a);have f:=hid (l.out.res.kept a);clear a;try go_wp2_with fail
   refine gL r trivial (λ_=>?_);clear r K l;refine bH 7 trivial ?_;refine bH 8 trivial ?_;refine bH 9 trivial ?_;refine bH 10 trivial ?_;refine bH 11 trivial ?_;refine wpAnyH_done (by kernel_rfl) ?_ _;refine Pl.cutE (λX=>Below w.heap.size w X/\Bx X w.heap.size (υ aD aP)) ⟨d.out,f.out⟩ ?_;rintro X ⟨g,h⟩;have n:=hid g;have i:=hid h;clear g h d f;go_wp2_with (refine wpList_store_mid D 41 _ _ D w.heap.size 0 (υ aD aP).toArray D D (i.out.there 0 75 (by rw[dG];omega)) cn (iq _ _ tX) ?_;refine Pl.cutL (λV=>Below w.heap.size w V/\Bx V w.heap.size (υ aD aP)) ⟨Bl.puts n.out (ψ _) _,zY i.out⟩ ?_;rintro V ⟨j,k⟩;have o:=hid j;have p:=hid k;clear j k)
   have s:=vQ _ _ p.out.c;refine Ξ (v:=Ψ #[ac (υ aD aP).toArray,J Q 2]) ?_ D ⟨D,o.out⟩;simp only[results,results37];simp;show (aE (bL ω (bC 41 ⟨w.heap.size,0,G⟩) V) _)=_;rw[s];rfl
  ·refine wpAnyH_ready (rs:=[2]) (by kernel_rfl) (by simp) ?_
   refine lD (op:=⟨A 11,_,_,_,_,G⟩) D D 26 _ _ D (J Q 128) (J Q 128) _ D D (lf _ (w.heap.size+1+1+1) (by simp)) trivial ?_ AllReadyH.nil;simp only[ag,xA,xB,xC];refine kN (NF w l1 l2 ⟨κ a1 l1.length c1,κ a2 l2.length c2,κ (A ⟨_,0,G⟩) 128 128,κ (A ⟨_,0,G⟩) 64 64,κ (A ⟨_,0,G⟩) 256 256⟩) (NF.of (b1:=w.heap.size+1+1+1) (b2:=w.heap.size+1) (b3:=w.heap.size+1+1) t.out x.out ?_ ?_ ?_ ?_ ?_) ?_
   ·repeat' (first|exact aR _|refine di ?_|refine stA ?_ _)
   ·repeat' (first|exact y.out|refine Bx.drew ?_|refine Bx.over ?_ _)
   ·repeat' (first|exact Bx.new _ (ai 128 (J au 0)) _ (by simp)|refine Bx.drew ?_|refine Bx.over ?_ _)
   ·repeat' (first|exact Bx.new _ (ai 64 (J au 0)) _ (by simp)|refine Bx.drew ?_|refine Bx.over ?_ _)
   ·repeat' (first|exact Bx.new _ (ai 256 (J au 0)) _ (by simp)|refine Bx.drew ?_|refine Bx.over ?_ _)
   intro ι q;have l:=hid q;clear q;refine jW 5 (ac (υ (dr l1 l2) ⟨κ a1 l1.length c1,κ a2 l2.length c2,κ (A ⟨w.heap.size+1+1+1,0,G⟩) 128 128,κ (A ⟨w.heap.size+1,0,G⟩) 64 64,κ (A ⟨w.heap.size+1+1,0,G⟩) 256 256⟩).toArray) D (λw' _=>rt 41 2 3 4 5 6 14 _ _ _ _ _ _ D _ _ _ _ _ _ _ D D D D D D (rr a1 a2 l1.length c1 l2.length c2 (w.heap.size+1+1+1) (w.heap.size+1) (w.heap.size+1+1) l1 l2 w')) trivial ?_;refine gy 6 (λK r=>?_);go_simp;go_at_call 56
   refine(yl (dr l1 l2) _ _ l.out.sl.lens z.out (by rw[m.out];decide)).mono ?_;rw[m.out];rintro e w1 ⟨rfl,a⟩;have d:=hid (bw l.out.low a);have f:=hid (l.out.res.kept a);clear a;try go_wp2_with fail
   refine gL r trivial (λ_=>?_);clear r K l;refine bH 7 trivial ?_;refine bH 8 trivial ?_;refine bH 9 trivial ?_;refine bH 10 trivial ?_;refine bH 11 trivial ?_;refine wpAnyH_done (by kernel_rfl) ?_ _;refine Pl.cutE (λX=>Below w.heap.size w X/\Bx X w.heap.size (υ aD aP)) ⟨d.out,f.out⟩ ?_;rintro X ⟨g,h⟩;have n:=hid g;have i:=hid h;clear g h d f;go_wp2_with (refine wpList_store_mid D 41 _ _ D w.heap.size 0 (υ aD aP).toArray D D (i.out.there 0 75 (by rw[dG];omega)) cn (iq _ _ tX) ?_;refine Pl.cutL (λV=>Below w.heap.size w V/\Bx V w.heap.size (υ aD aP)) ⟨Bl.puts n.out (ψ _) _,zY i.out⟩ ?_;rintro V ⟨j,k⟩;have o:=hid j;have p:=hid k;clear j k)
   have s:=vQ _ _ p.out.c;refine Ξ (v:=Ψ #[ac (υ aD aP).toArray,J Q 2]) ?_ D ⟨D,o.out⟩;simp only[results,results37];simp;show (aE (bL ω (bC 41 ⟨w.heap.size,0,G⟩) V) _)=_;rw[s];rfl
 ·refine wpAnyH_ready (rs:=[2,3]) (by kernel_rfl) (by simp) ?_
  refine lD (op:=⟨A 11,_,_,_,_,G⟩) D D 26 _ _ D (J Q 128) (J Q 128) _ D D (lf _ (w.heap.size+1+1) (by simp)) trivial ?_ (lD (op:=⟨A 12,_,_,_,_,G⟩) D D 26 _ _ D (J Q 64) (J Q 64) _ D D (oq _ (w.heap.size+1+1) (by simp)) trivial ?_ AllReadyH.nil);all_goals simp only[ag,xA,xB,xC]
  ·refine wpAnyH_ready (rs:=[3]) (by kernel_rfl) (by simp) ?_
   refine lD (op:=⟨A 12,_,_,_,_,G⟩) D D 26 _ _ D (J Q 64) (J Q 64) _ D D (oq _ (w.heap.size+1+1+1) (by simp)) trivial ?_ AllReadyH.nil;simp only[ag,xA,xB,xC];refine kN (NF w l1 l2 ⟨κ a1 l1.length c1,κ a2 l2.length c2,κ (A ⟨_,0,G⟩) 128 128,κ (A ⟨_,0,G⟩) 64 64,κ (A ⟨_,0,G⟩) 256 256⟩) (NF.of (b1:=w.heap.size+1+1) (b2:=w.heap.size+1+1+1) (b3:=w.heap.size+1) t.out x.out ?_ ?_ ?_ ?_ ?_) ?_
   ·repeat' (first|exact aR _|refine di ?_|refine stA ?_ _)
   ·repeat' (first|exact y.out|refine Bx.drew ?_|refine Bx.over ?_ _)
   ·repeat' (first|exact Bx.new _ (ai 128 (J au 0)) _ (by simp)|refine Bx.drew ?_|refine Bx.over ?_ _)
   ·repeat' (first|exact Bx.new _ (ai 64 (J au 0)) _ (by simp)|refine Bx.drew ?_|refine Bx.over ?_ _)
   ·repeat' (first|exact Bx.new _ (ai 256 (J au 0)) _ (by simp)|refine Bx.drew ?_|refine Bx.over ?_ _)
   intro ι q;have l:=hid q;clear q;refine jW 5 (ac (υ (dr l1 l2) ⟨κ a1 l1.length c1,κ a2 l2.length c2,κ (A ⟨w.heap.size+1+1,0,G⟩) 128 128,κ (A ⟨w.heap.size+1+1+1,0,G⟩) 64 64,κ (A ⟨w.heap.size+1,0,G⟩) 256 256⟩).toArray) D (λw' _=>rt 41 2 3 4 5 6 14 _ _ _ _ _ _ D _ _ _ _ _ _ _ D D D D D D (rr a1 a2 l1.length c1 l2.length c2 (w.heap.size+1+1) (w.heap.size+1+1+1) (w.heap.size+1) l1 l2 w')) trivial ?_;refine gy 6 (λK r=>?_);go_simp;go_at_call 56
   refine(yl (dr l1 l2) _ _ l.out.sl.lens z.out (by rw[m.out];decide)).mono ?_;rw[m.out];rintro e w1 ⟨rfl,a⟩;have d:=hid (bw l.out.low a);have f:=hid (l.out.res.kept a);clear a;try go_wp2_with fail
   refine gL r trivial (λ_=>?_);clear r K l;refine bH 7 trivial ?_;refine bH 8 trivial ?_;refine bH 9 trivial ?_;refine bH 10 trivial ?_;refine bH 11 trivial ?_;refine wpAnyH_done (by kernel_rfl) ?_ _;refine Pl.cutE (λX=>Below w.heap.size w X/\Bx X w.heap.size (υ aD aP)) ⟨d.out,f.out⟩ ?_;rintro X ⟨g,h⟩;have n:=hid g;have i:=hid h;clear g h d f;go_wp2_with (refine wpList_store_mid D 41 _ _ D w.heap.size 0 (υ aD aP).toArray D D (i.out.there 0 75 (by rw[dG];omega)) cn (iq _ _ tX) ?_;refine Pl.cutL (λV=>Below w.heap.size w V/\Bx V w.heap.size (υ aD aP)) ⟨Bl.puts n.out (ψ _) _,zY i.out⟩ ?_;rintro V ⟨j,k⟩;have o:=hid j;have p:=hid k;clear j k)
   have s:=vQ _ _ p.out.c;refine Ξ (v:=Ψ #[ac (υ aD aP).toArray,J Q 2]) ?_ D ⟨D,o.out⟩;simp only[results,results37];simp;show (aE (bL ω (bC 41 ⟨w.heap.size,0,G⟩) V) _)=_;rw[s];rfl
  ·refine wpAnyH_ready (rs:=[2]) (by kernel_rfl) (by simp) ?_
   refine lD (op:=⟨A 11,_,_,_,_,G⟩) D D 26 _ _ D (J Q 128) (J Q 128) _ D D (lf _ (w.heap.size+1+1+1) (by simp)) trivial ?_ AllReadyH.nil;simp only[ag,xA,xB,xC];refine kN (NF w l1 l2 ⟨κ a1 l1.length c1,κ a2 l2.length c2,κ (A ⟨_,0,G⟩) 128 128,κ (A ⟨_,0,G⟩) 64 64,κ (A ⟨_,0,G⟩) 256 256⟩) (NF.of (b1:=w.heap.size+1+1+1) (b2:=w.heap.size+1+1) (b3:=w.heap.size+1) t.out x.out ?_ ?_ ?_ ?_ ?_) ?_
   ·repeat' (first|exact aR _|refine di ?_|refine stA ?_ _)
   ·repeat' (first|exact y.out|refine Bx.drew ?_|refine Bx.over ?_ _)
   ·repeat' (first|exact Bx.new _ (ai 128 (J au 0)) _ (by simp)|refine Bx.drew ?_|refine Bx.over ?_ _)
   ·repeat' (first|exact Bx.new _ (ai 64 (J au 0)) _ (by simp)|refine Bx.drew ?_|refine Bx.over ?_ _)
   ·repeat' (first|exact Bx.new _ (ai 256 (J au 0)) _ (by simp)|refine Bx.drew ?_|refine Bx.over ?_ _)
   intro ι q;have l:=hid q;clear q;refine jW 5 (ac (υ (dr l1 l2) ⟨κ a1 l1.length c1,κ a2 l2.length c2,κ (A ⟨w.heap.size+1+1+1,0,G⟩) 128 128,κ (A ⟨w.heap.size+1+1,0,G⟩) 64 64,κ (A ⟨w.heap.size+1,0,G⟩) 256 256⟩).toArray) D (λw' _=>rt 41 2 3 4 5 6 14 _ _ _ _ _ _ D _ _ _ _ _ _ _ D D D D D D (rr a1 a2 l1.length c1 l2.length c2 (w.heap.size+1+1+1) (w.heap.size+1+1) (w.heap.size+1) l1 l2 w')) trivial ?_;refine gy 6 (λK r=>?_);go_simp;go_at_call 56
   refine(yl (dr l1 l2) _ _ l.out.sl.lens z.out (by rw[m.out];decide)).mono ?_;rw[m.out];rintro e w1 ⟨rfl,a⟩;have d:=hid (bw l.out.low a);have f:=hid (l.out.res.kept a);clear a;try go_wp2_with fail
   refine gL r trivial (λ_=>?_);clear r K l;refine bH 7 trivial ?_;refine bH 8 trivial ?_;refine bH 9 trivial ?_;refine bH 10 trivial ?_;refine bH 11 trivial ?_;refine wpAnyH_done (by kernel_rfl) ?_ _;refine Pl.cutE (λX=>Below w.heap.size w X/\Bx X w.heap.size (υ aD aP)) ⟨d.out,f.out⟩ ?_;rintro X ⟨g,h⟩;have n:=hid g;have i:=hid h;clear g h d f;go_wp2_with (refine wpList_store_mid D 41 _ _ D w.heap.size 0 (υ aD aP).toArray D D (i.out.there 0 75 (by rw[dG];omega)) cn (iq _ _ tX) ?_;refine Pl.cutL (λV=>Below w.heap.size w V/\Bx V w.heap.size (υ aD aP)) ⟨Bl.puts n.out (ψ _) _,zY i.out⟩ ?_;rintro V ⟨j,k⟩;have o:=hid j;have p:=hid k;clear j k)
   have s:=vQ _ _ p.out.c;refine Ξ (v:=Ψ #[ac (υ aD aP).toArray,J Q 2]) ?_ D ⟨D,o.out⟩;simp only[results,results37];simp;show (aE (bL ω (bC 41 ⟨w.heap.size,0,G⟩) V) _)=_;rw[s];rfl
section
variable {w : u} {L1 L2 : List π} {ι : u}
theorem zfd(M:Mach)(S:Sl)(v:π)(l:List Inp)(n:Int)(w:u)(z:cf w S M)(B:∀ j,j<5->(M.byt j).length<=9223372036854775807)(d:M.ok)(f:bP w.heap.size w v l)(E:-9223372036854775808<=n/\n<=9223372036854775807)(F:bS M l n≠0):Δ ω 9 #[ac (υ M S).toArray,v,J Q n] w λe w'=>e=μ (Ψ #[ac (υ aD aP).toArray,ac #[κ G 0 0,κ G 0 0,κ G 0 0],J Q (bS M l n)])/\Below w.heap.size w w':=by
 have g:=Bx.new w (υ M S) 41 (b:=w.heap.size) D;have h:Below w.heap.size w (((w.alloc (χ (υ M S).toArray 41)).alloc (χ (υ aD aP).toArray 41)).alloc (χ #[κ G 0 0,κ G 0 0,κ G 0 0] 47)):=stA (stA (stA (aR w) _) _) _;have p:Hid (RR w (υ aD aP) [κ G 0 0,κ G 0 0,κ G 0 0] (((w.alloc (χ (υ M S).toArray 41)).alloc (χ (υ aD aP).toArray 41)).alloc (χ #[κ G 0 0,κ G 0 0,κ G 0 0] 47))) :=
  ⟨h,(Bx.new (w.alloc (χ (υ M S).toArray 41)) (υ aD aP) 41 (b:=w.heap.size+1) (by simp)).over _,Bx.new ((w.alloc (χ (υ M S).toArray 41)).alloc (χ (υ aD aP).toArray 41)) [κ G 0 0,κ G 0 0,κ G 0 0] 47 (b:=w.heap.size+2) (by simp)⟩
 have q:=hid ((g.over (χ (υ aD aP).toArray 41)).over (χ #[κ G 0 0,κ G 0 0,κ G 0 0] 47));have L:=hid (z.kept h);have s:=hid ((f.kept h).mono h.size);have N:=hid B;have t:=hid d;have P:=hid E;obtain⟨r,i⟩:∃ r,r=bS M l n:=⟨_,D⟩
 have a:=zgu M S v l n _ L.out N.out t.out s.out P.out F;rw[<- i] at F a ⊢;have x:=hid a;clear z B f d E g h a i;go_enter func9,ntmps9;go_wp2_with (first
  | (refine wpList_load_mid D 41 _ D w.heap.size 0 D (υ M S) _ q.out.c underlying41 D cn ?_)
  | (go_at_call 31;refine x.out.mono ?_;rintro e w1 ⟨rfl,k⟩;have m:=hid (p.out.kept k);clear k)
  | (refine wpList_store_mid D 41 _ _ D (w.heap.size+1) 0 (υ aD aP).toArray D D (m.out.b1.there 0 75 (by rw[dG];omega)) cn (iq _ _ vS) ?_
     refine Pl.cutL (RR w (υ aD aP) [κ G 0 0,κ G 0 0,κ G 0 0]) m.out.zero1 ?_;intro Z H;have o:=hid H;clear H)
  | (refine wpList_store_mid D 47 _ _ D (w.heap.size+2) 0 #[κ G 0 0,κ G 0 0,κ G 0 0] D D (o.out.b2.there 0 3 (by simp)) kX (by simp[bi]) ?_
     refine Pl.cutL (RR w (υ aD aP) [κ G 0 0,κ G 0 0,κ G 0 0]) o.out.zero2 ?_;intro V I;have y:=hid I;clear I))
 refine Ξ (v:=Ψ #[ac (υ aD aP).toArray,ac #[κ G 0 0,κ G 0 0,κ G 0 0],J Q r]) ?_ D ⟨D,y.out.low⟩;have l1:=run_loadVar_mid V (w.heap.size+1) 0 41 _ _ y.out.b1.c underlying41 D cn;have l2:=run_loadVar_mid V (w.heap.size+2) 0 47 _ _ y.out.b2.c underlying47 D kX;simp only[results,results9];simp;show (aE (bL ω (bC 41 ⟨w.heap.size+1,0,G⟩) V) _)=_;rw[l1];show (aE (bL ω (bC 47 ⟨w.heap.size+2,0,G⟩) V) _)=_;rw[l2];rfl
end
structure R3 (w1 : u) (X : Mach) (S' : Sl) (L : List π) (ι : u) : Prop where
 old:Below w1.heap.size w1 ι
 x:Bx ι w1.heap.size (υ X S')
 s:Bx ι (w1.heap.size+1) L
section
variable {w1 ι Y' : u} {X : Mach} {S' : Sl} {L : List π}
theorem R3.mk1(w1:u)(X:Mach)(S':Sl):R3 w1 X S' nil3 (((w1.alloc (χ (υ aD aP).toArray 41)).alloc (χ #[κ G 0 0,κ G 0 0,κ G 0 0] 47)).setCells w1.heap.size 0 (υ X S')):=by
 have h1:=((Bx.new w1 (υ aD aP) 41 (b:=w1.heap.size) D).over (χ #[κ G 0 0,κ G 0 0,κ G 0 0] 47)).puts 0 (υ X S') (by rw[dG,dG];omega);rw[mK _ _ (by rw[dG,dG])] at h1;exact⟨ni (stA (stA (aR w1) _) _) (ψ _) _ _,h1,DW.bb (Bx.new (w1.alloc (χ (υ aD aP).toArray 41)) nil3 47 (b:=w1.heap.size+1) (by simp)) (by omega)⟩
theorem R3.put{x y z a b c:π}(h:R3 w1 X S' [x,y,z] ι):R3 w1 X S' [a,b,c] (ι.setCells (w1.heap.size+1) 0 [a,b,c]):=by
 have h1:=h.s.puts 0 [a,b,c] (by simp);rw[mK _ _ (by simp)] at h1;exact⟨ni h.old (by omega) _ _,DW.bb h.x (by omega),h1⟩
theorem R3.kept(h:R3 w1 X S' L ι)(hb:Below ι.heap.size ι Y'):R3 w1 X S' L Y':=⟨bw h.old hb,h.x.kept hb,h.s.kept hb⟩
end
theorem R3.th1(w1:u):((w1.alloc (χ (υ aD aP).toArray 41)).alloc (χ #[κ G 0 0,κ G 0 0,κ G 0 0] 47)).there w1.heap.size 0 75:=((Bx.new w1 (υ aD aP) 41 (b:=w1.heap.size) rfl).over _).there 0 75 (by rw[dG];omega)
end Go.Proofs.YthghjlinhokimaaGreatDoor
namespace Go.Proofs.YthghjlinhokimaaGreatDoor
open Go.ChangeShapes Go.WideShapes Go.ChangeAt Go.RowKit Go.Proofs.Tryz
theorem zuW(l a f:Int):∀ j:Nat,(gI l a f j).length<=j
 | 0=>ψ _
 | j+1=>by
  show (gI l a f j++(lh l a f j).toList).length<=_;have:=zuW l a f j;have h1:(lh l a f j).toList.length<=1:=by cases lh l a f j <;> simp
  rw[az];omega
structure Cs.counts (M : Mach) (k : Cs) (n : Nat) : Prop where
 ln:k.ln.map (λx=>(x.f,x.l))=gI M.b.l M.b.a M.b.f n
 sm:(k.sm.length:Int)=if M.s.w<n then (n-M.s.w-1)/16+1 else 0
 clock:k.s.M.clock=M.clock+n
theorem counts_of(M:Mach)(l:List Inp)(n:Nat)(d:M.fit)(hb:BOk M.b.l M.b.a M.b.f)(c:M.b.f<=19000)(e:n<=20000)(hc:(Cs.clocks ⟨⟨M,0,[]⟩,l,[],[]⟩ n).s.M.clock=M.clock+n):Cs.counts M (Cs.clocks ⟨⟨M,0,[]⟩,l,[],[]⟩ n) n:=by
 have h1:=zeM ⟨⟨M,0,[]⟩,l,[],[]⟩ hb c D n e;have h2:=zgx ⟨⟨M,0,[]⟩,l,[],[]⟩ hb c n e;have h3:=(zlm (s:=M.s) { d.s with w:=d.w } n).1;refine⟨h1,?_,hc⟩;rw[h2,<- h3];simp
theorem zqt(k0:Cs):∀ j:Nat,(k0.clocks j).s.M.clock=k0.s.M.clock+j
 | 0=>by simp[Cs.clocks]
 | j+1=>by
  show (k0.clocks j).now.s.M.clock+1=_;rw[sZ,zqt k0 j];push_cast;omega
section
variable {F : Gx} {W : u} {M : Mach} {tk : Tk} {gb mb : Nat}
theorem Gm.getN0s(h:Gd F W M tk)(c:Pb F W gb)(a:Int)(h1:0<=a)(h2:a<32768):Δ ω 87 #[J Y a,pt gb 0,pt mb 0] W λe w'=>e=μ (J au (M.lookM a))/\W=w':=by
 obtain⟨d,e1,_⟩:=c;have hp:dP a=ξ:=by unfold dP;exact aG (by omega)
 have b:=hid (zd3 h a (by omega));rw[hp] at b;clear h hp;simp only[cD,fj] at b;go_enter func87,ntmps87;go_wp2_with (first
  | (go_at_call 88;refine(Gm.reg0 a _ h1 h2).mono ?_;rintro e w1 ⟨rfl,rfl⟩)
  | (go_at_call 89;refine b.out.mono ?_;rintro e w1 ⟨rfl,rfl⟩))
 go_ret;exact⟨D,D⟩
theorem Gm.wordM(h:Gd F W M tk)(a:Pb F W gb){hb lb:Nat}:Δ ω 86 #[memM mb hb lb gb,J Y 0] W λe w'=>e=μ (J Y (M.lookM 0*256+M.lookM 1))/\Below W.heap.size W w':=by
 have c:=sD M 0;have h1:=sD M 1;have q0:=hid (λo:Obj=>Gm.getN0s (mb:=mb) (h.over o) (a.kept (stA (aR W) o)) 0 (by omega) (by omega));have q1:=hid (λo:Obj=>Gm.getN0s (mb:=mb) (h.over o) (a.kept (stA (aR W) o)) 1 (by omega) (by omega));generalize M.lookM 0=d at *;generalize M.lookM 1=x1 at *;clear h a;go_enter func86,ntmps86;go_wp2_with (first
  | (go_at_call 87;refine(b.out _).mono ?_;rintro e w2 ⟨rfl,rfl⟩)
  | (go_at_call 87;refine(q0.out _).mono ?_;rintro e w1 ⟨rfl,rfl⟩;have b:=q1))
 go_ret;exact⟨D,stA (aR W) _⟩
end
structure MainV (g n : Nat) (w : u) : Prop where
 z:n+4<w.heap.size
 a:w.cell? ⟨n,0,G⟩=A (pt g 0)
 b:w.cell? ⟨n+2,0,G⟩=A (pt g 0)
 c:w.cell? ⟨n+3,0,G⟩=A (fh 92 #[])
 d:w.cell? ⟨n+4,0,G⟩=A (fh 93 #[])
theorem zn9(g:Nat)(w:u):Δ ω 49 #[pt g 0] w λe w'=>e=μ (memM (w.heap.size+2) (w.heap.size+3) (w.heap.size+4) w.heap.size)/\Below w.heap.size w w'/\MainV g w.heap.size w':=by
 go_enter func49,ntmps49;go_wp2;refine Ξ (v:=.agg _) (by simp[results,results49,go_sem]) D ⟨D,?_,?_⟩
 ·repeat (first|exact aR _|refine stA ?_ _|refine iK ?_ (by simp) _)
 ·exact⟨by simp,by simp[go_sem],by simp[go_sem],by simp[go_sem],by simp[go_sem]⟩
section
variable {F : Gx} {W : u} {M : Mach} {tk : Tk} {gb mb : Nat}
theorem MainV.pu{w1:u}(h:Gd F W M tk)(e:MainV F.g W.heap.size w1):Pu F w1 (W.heap.size+2) (W.heap.size+3) (W.heap.size+4) W.heap.size :=
 have f:=e.z
 ⟨⟨by omega,e.b,h.fresh (by omega)⟩,⟨by omega,e.a,h.fresh (ψ _)⟩,⟨by omega,e.c,h.fresh (by omega)⟩,⟨e.z,e.d,h.fresh (by omega)⟩⟩
theorem zrI(h:Gd F W M tk)(j:Pb F W gb){hb lb:Nat}:Δ ω 48 #[memM mb hb lb gb] W λe w'=>e=μ (ac (j5 (M.lookM 0*256+M.lookM 1)).toArray)/\Below W.heap.size W w':=by
 have l:=hid (λ(o o':Obj)=>Gm.wordM (mb:=mb) (hb:=hb) (lb:=lb) ((h.over o).over o') (j.kept (stA (stA (aR W) o) o')));generalize M.lookM 0*256+M.lookM 1=x at *;clear h j;go_enter func48,ntmps48;go_wp2_with (first
  | (go_at_call 86;refine(l.out _ _).mono ?_;rintro e w1 ⟨rfl,a⟩;have k:=hid ((Bx.new (W.alloc _) (j5 0) 25 (b:=W.heap.size+1) (by simp)).kept a);have f:=hid (bw (stA (stA (aR W) _) _) a);clear a)
  | (refine wpList_store_mid D 25 _ _ D (W.heap.size+1) 0 _ D D (Bx.there k.out 0 15 (by simp[j5])) sX (zu _) ?_
     refine Pl.cutL (λι=>Below W.heap.size W ι/\Bx ι (W.heap.size+1) (j5 x)) ⟨Bl.puts f.out (by omega) _,k.out.puts 0 (j5 x) (by simp[j5])⟩ ?_;rintro ι ⟨c,d⟩;have g:=hid c;have i:=hid d;clear c d))
 exact Ξ (v:=.agg _) (by simp only[results,results48];simp;exact Pl.res (zjI i.out)) D ⟨D,g.out⟩
end
theorem zM{P:Program}{a:Act}{o:Oper}{w:u}(t:TypeId)(i:Nat)(x:Operand)(d:o.op=.build t #[(i,x)])(c v:π)(e:a.eval x=c)
 (b:(Instr.build t #[(i,c)]).run P w=.ok v w):(execOp a.eval o).run P w=.ok (.value v) w :=
 zdF t _ d v (by simp only[fy,cI,dQ,e];exact b)
structure NG (w : u) (l1 l2 : List UInt8) (F : Gx) (M : Mach) (ι : u) : Prop where
 gd:Gd F ι M Tk.zero
 low:Below w.heap.size w ι
 res:Bx ι w.heap.size (υ aD aP)
 B:w.heap.size<F.B
 ro:F.apart M (λj=>j=w.heap.size)
theorem NG.kept{w ι Y':u}{l1 l2:List UInt8}{F:Gx}{M:Mach}(h:NG w l1 l2 F M ι)(hb:Below ι.heap.size ι Y'):NG w l1 l2 F M Y':=⟨h.gd.kept hb,bw h.low hb,h.res.kept hb,h.B,h.ro⟩
theorem zj2{W:u}{n b:Nat}(h:Bx W b (ai n (J au 0))):Rw W (κ (A ⟨b,0,G⟩) n n) b (ai n 0):=by
 refine Or.inr ⟨n,by simp,by simp,?_⟩;have e:gJ (ai n 0)=ai n (J au 0):=by unfold gJ;rw[List.map_replicate];rfl
 rw[e];exact h
theorem NG.of{w ι:u}{l1 l2:List UInt8}{a1 a2:Option Addr}{c1 c2 b1 b2 b3:Nat}(c:l1.length<=1024)(f:l2.length<=1024)(g:sliceAt w (κ a1 l1.length c1) l1)(i:sliceAt w (κ a2 l2.length c2) l2)(b:Below w.heap.size w ι)(j:Bx ι w.heap.size (υ aD aP))
 (x1:Bx ι b1 (ai 128 (J au 0))) (x2:Bx ι b2 (ai 64 (J au 0))) (x3:Bx ι b3 (ai 256 (J au 0))) (d:w.heap.size<b1/\w.heap.size<b2/\w.heap.size<b3/\b1≠b2/\b1≠b3/\b2≠b3) (t:TypeId) :
 NG w l1 l2 ⟨w.heap.size+1,ι.heap.size,0,0,b1,b2,b3,⟨κ a1 l1.length c1,κ a2 l2.length c2,κ (A ⟨b1,0,G⟩) 128 128,κ (A ⟨b2,0,G⟩) 64 64,κ (A ⟨b3,0,G⟩) 256 256⟩⟩ (dr l1 l2)
  (ι.alloc (χ (υ (dr l1 l2) ⟨κ a1 l1.length c1,κ a2 l2.length c2,κ (A ⟨b1,0,G⟩) 128 128,κ (A ⟨b2,0,G⟩) 64 64,κ (A ⟨b3,0,G⟩) 256 256⟩++sj).toArray t)):=by
 have m:=b.size;have n:=x1.z;have z2:=x2.z;have z3:=x3.z;have o:=j.z;have l:∀ k,k<w.heap.size->¬ (k=ι.heap.size \/ k=b1 \/ k=b2 \/ k=b3):=λk a h=>by omega
 refine⟨⟨Bx.new ι _ t D,(g.kept b).kept (stA (aR ι) _),(i.kept b).kept (stA (aR ι) _),zj2 (x1.over _),zj2 (x2.over _),zj2 (x3.over _),⟨⟨by show w.heap.size+1<=ι.heap.size;omega,by show w.heap.size+1<=b1;omega,by show w.heap.size+1<=b2;omega,by show w.heap.size+1<=b3;omega⟩,⟨by show ι.heap.size≠b1;omega,by show ι.heap.size≠b2;omega,by show ι.heap.size≠b3;omega,d.2.2.2.1,d.2.2.2.2.1,d.2.2.2.2.2⟩⟩,zj0 l1 l2 c f,by show w.heap.size+1<=(ι.alloc _).heap.size;simp;omega,eU _ _ _ _,⟨λhp k a=>l k (g.lt hp k a),λhp k a=>l k (i.lt hp k a)⟩,λk a=>by cases a⟩,stA b _,j.over _,by show w.heap.size<w.heap.size+1;omega,⟨λhp k a e=>by have:=g.lt hp k a;omega,λhp k a e=>by have:=i.lt hp k a;omega⟩⟩
theorem zN{w ι:u}{l1 l2:List UInt8}{a1 a2:Option Addr}{c1 c2 b1 b2 b3:Nat}(a:sliceAt w (κ a1 l1.length c1) l1)(b:sliceAt w (κ a2 l2.length c2) l2)(c:Below w.heap.size w ι)(d:Bx ι w.heap.size (υ aD aP))
 (x1:Bx ι b1 (ai 128 (J au 0))) (x2:Bx ι b2 (ai 64 (J au 0))) (x3:Bx ι b3 (ai 256 (J au 0))):NF w l1 l2 ⟨κ a1 l1.length c1,κ a2 l2.length c2,κ (A ⟨b1,0,G⟩) 128 128,κ (A ⟨b2,0,G⟩) 64 64,κ (A ⟨b3,0,G⟩) 256 256⟩ ι/\Bx ι b1 (ai 128 (J au 0))/\Bx ι b2 (ai 64 (J au 0))/\Bx ι b3 (ai 256 (J au 0)):=⟨NF.of a b c d x1 x2 x3,x1,x2,x3⟩
theorem Gd.isSl{F:Gx}{W:u}{M:Mach}{tk:Tk}(h:Gd F W M tk):F.S.isSl:=λj b=>by
 obtain⟨a,c,e⟩:=h.slAt.lens j b;exact⟨_,_,_,e⟩
theorem NG.main{w ι:u}{l1 l2:List UInt8}{F:Gx}(h:NG w l1 l2 F (dr l1 l2) ι):NG w l1 l2 F (dv l1 l2) (ι.setCells F.g 0 (j5 ((dr l1 l2).lookM 0*256+(dr l1 l2).lookM 1))):=by
 have a:=AB _ _ (sD (dr l1 l2) 0) (sD (dr l1 l2) 1);have b:(dv l1 l2).fit:=Mach.fit.of h.gd.fit { h.gd.fit with main:=a } ⟨D,D,D,D,D⟩ D ⟨D,D,D⟩ ⟨D,D⟩ (aj D);rw[znZ];have lo:=h.gd.nd.lo.1;have hB:=h.B;exact⟨h.gd.puts (M':=dv l1 l2) (tk':=Tk.zero) 0 (bY (gM ((dr l1 l2).lookM 0) ((dr l1 l2).lookM 1))) (by simp[bY]) (F.putMain _ _ _) ⟨D,D,D,D,D⟩ b,Bl.puts h.low (by omega) _,h.res.fars (by omega) _ _,hB,Gx.apart_of h.ro D D⟩
theorem NG.fin{w ι:u}{l1 l2:List UInt8}{F:Gx}{M:Mach}(h:NG w l1 l2 F M ι):Below w.heap.size w (ι.setCells w.heap.size 0 (υ M F.S))/\Bx (ι.setCells w.heap.size 0 (υ M F.S)) w.heap.size (υ M F.S)/\cf (ι.setCells w.heap.size 0 (υ M F.S)) F.S M:=by
 have b:=h.res.puts 0 (υ M F.S) (by rw[dG,dG];omega);rw[mK _ _ (by rw[dG,dG])] at b;have lo:=h.gd.nd.lo;have hB:=h.B;refine⟨Bl.puts h.low (ψ _) _,b,λj c=>?_⟩;rcases five c with rfl|rfl|rfl|rfl|rfl
 ·exact h.gd.mr.same (cq (pN _ _ _ _).symm) (λhp k a _=>ji (λe=>h.ro.1 hp k a e) _ _ _)
 ·exact h.gd.ar.same (cq (pN _ _ _ _).symm) (λhp k a _=>ji (λe=>h.ro.2 hp k a e) _ _ _)
 ·exact(h.gd.ra.offB (by omega) _ _).slice
 ·exact(h.gd.ow.offB (by omega) _ _).slice
 ·exact(h.gd.vi.offB (by omega) _ _).slice
theorem zfb(l1 l2:List UInt8)(W v2:π)(w:u)(h1:sliceAt w W l1)(h2:sliceAt w v2 l2)(l:l1.length<=1024)(m:l2.length<=1024):Δ ω 23 #[W,v2] w λe w'=>∃ S',e=μ (ac (υ (dv l1 l2) S').toArray)/\cf w' S' (dv l1 l2)/\(dv l1 l2).fit/\Below w.heap.size w w':=by
 obtain⟨a1,c1,e1⟩:=tV h1;obtain⟨a2,c2,e2⟩:=tV h2;subst e1 e2;have n:=hid h1;have o:=hid h2;have t:=hid (Bx.new w (υ aD aP) 41 (b:=w.heap.size) D);clear h1 h2;go_enter func23,ntmps23;go_upto_region 1 with fail
 go_cut [5] (λv5 ι=>∃ F,v5=pt F.g 0/\NG w l1 l2 F (dr l1 l2) ι)
 case first =>
  refine wp_region_held_drew (S:=λ_=>True) (by kernel_rfl) trivial ?_;intro _;refine bH 0 trivial ?_;refine bH 1 trivial ?_;refine wpAnyH_ready (rs:=[2,3,4]) (by kernel_rfl) (by simp) ?_;refine lD (op:=⟨A 8,_,_,_,_,G⟩) D D 26 _ _ D (J Q 128) (J Q 128) _ D D (lf _ (w.heap.size+1) (by simp)) trivial ?_ (lD (op:=⟨A 9,_,_,_,_,G⟩) D D 26 _ _ D (J Q 64) (J Q 64) _ D D (oq _ (w.heap.size+1) (by simp)) trivial ?_ (lD (op:=⟨A 10,_,_,_,_,G⟩) D D 26 _ _ D (J Q 256) (J Q 256) _ D D (si _ (w.heap.size+1) (by simp)) trivial ?_ AllReadyH.nil));all_goals simp only[ag,xA,xB,xC]
  ·refine wpAnyH_ready (rs:=[3,4]) (by kernel_rfl) (by simp) ?_
   refine lD (op:=⟨A 9,_,_,_,_,G⟩) D D 26 _ _ D (J Q 64) (J Q 64) _ D D (oq _ (w.heap.size+1+1) (by simp)) trivial ?_ (lD (op:=⟨A 10,_,_,_,_,G⟩) D D 26 _ _ D (J Q 256) (J Q 256) _ D D (si _ (w.heap.size+1+1) (by simp)) trivial ?_ AllReadyH.nil);all_goals simp only[ag,xA,xB,xC]
   ·refine wpAnyH_ready (rs:=[4]) (by kernel_rfl) (by simp) ?_
    refine lD (op:=⟨A 10,_,_,_,_,G⟩) D D 26 _ _ D (J Q 256) (J Q 256) _ D D (si _ (w.heap.size+1+1+1) (by simp)) trivial ?_ AllReadyH.nil;all_goals simp only[ag,xA,xB,xC]
    refine kN (λι=>NF w l1 l2 ⟨κ a1 l1.length c1,κ a2 l2.length c2,κ (A ⟨w.heap.size+1,0,G⟩) 128 128,κ (A ⟨w.heap.size+1+1,0,G⟩) 64 64,κ (A ⟨w.heap.size+1+1+1,0,G⟩) 256 256⟩ ι/\Bx ι (w.heap.size+1) (ai 128 (J au 0))/\Bx ι (w.heap.size+1+1) (ai 64 (J au 0))/\Bx ι (w.heap.size+1+1+1) (ai 256 (J au 0))) (zN n.out o.out ?_ ?_ ?_ ?_ ?_) ?_
    ·repeat (first|exact aR _|refine di ?_|refine stA ?_ _)
    ·repeat (first|exact t.out|refine Bx.drew ?_|refine Bx.over ?_ _)
    ·repeat (first|exact Bx.new _ (ai 128 (J au 0)) _ (by simp)|refine Bx.drew ?_|refine Bx.over ?_ _)
    ·repeat (first|exact Bx.new _ (ai 64 (J au 0)) _ (by simp)|refine Bx.drew ?_|refine Bx.over ?_ _)
    ·repeat (first|exact Bx.new _ (ai 256 (J au 0)) _ (by simp)|refine Bx.drew ?_|refine Bx.over ?_ _)
    rintro ι ⟨a,d,f,h⟩;have k:=hid (NG.of l m n.out o.out a.low a.res d f h (by omega) 107);clear a d f h;refine jW 5 (ac (υ (dr l1 l2) ⟨κ a1 l1.length c1,κ a2 l2.length c2,κ (A ⟨w.heap.size+1,0,G⟩) 128 128,κ (A ⟨w.heap.size+1+1,0,G⟩) 64 64,κ (A ⟨w.heap.size+1+1+1,0,G⟩) 256 256⟩).toArray) D (λw' _=>rt 41 2 3 4 5 6 14 _ _ _ _ _ _ D _ _ _ _ _ _ _ D D D D D D (rr a1 a2 l1.length c1 l2.length c2 (w.heap.size+1) (w.heap.size+1+1) (w.heap.size+1+1+1) l1 l2 w')) trivial ?_;refine jW 6 (ac (υ (dr l1 l2) ⟨κ a1 l1.length c1,κ a2 l2.length c2,κ (A ⟨w.heap.size+1,0,G⟩) 128 128,κ (A ⟨w.heap.size+1+1,0,G⟩) 64 64,κ (A ⟨w.heap.size+1+1+1,0,G⟩) 256 256⟩++sj).toArray) D (λw' _=>zM 107 0 _ D _ _ D (xq (dr l1 l2) ⟨κ a1 l1.length c1,κ a2 l2.length c2,κ (A ⟨w.heap.size+1,0,G⟩) 128 128,κ (A ⟨w.heap.size+1+1,0,G⟩) 64 64,κ (A ⟨w.heap.size+1+1+1,0,G⟩) 256 256⟩ w')) trivial ?_;refine gy 7 (λK i=>?_);go_simp;refine i.out _ _ trivial (λ_=>?_)
    clear i K;refine kN (NG w l1 l2 ⟨w.heap.size+1,ι.heap.size,0,0,w.heap.size+1,w.heap.size+1+1,w.heap.size+1+1+1,⟨κ a1 l1.length c1,κ a2 l2.length c2,κ (A ⟨w.heap.size+1,0,G⟩) 128 128,κ (A ⟨w.heap.size+1+1,0,G⟩) 64 64,κ (A ⟨w.heap.size+1+1+1,0,G⟩) 256 256⟩⟩ (dr l1 l2)) k.out ?_;intro Z j;have p:=hid j;clear j;try simp only[ag,xA,xB,xC]
    refine bH 8 trivial ?_;refine wpAnyH_done (by kernel_rfl) ?_ _;try go_simp
    rename_i q _ _;refine q _ _ ?_;go_meet;exact⟨_,D,p.out⟩
   ·refine wpAnyH_ready (rs:=[3]) (by kernel_rfl) (by simp) ?_
    refine lD (op:=⟨A 9,_,_,_,_,G⟩) D D 26 _ _ D (J Q 64) (J Q 64) _ D D (oq _ (w.heap.size+1+1+1) (by simp)) trivial ?_ AllReadyH.nil;all_goals simp only[ag,xA,xB,xC]
    refine kN (λι=>NF w l1 l2 ⟨κ a1 l1.length c1,κ a2 l2.length c2,κ (A ⟨w.heap.size+1,0,G⟩) 128 128,κ (A ⟨w.heap.size+1+1+1,0,G⟩) 64 64,κ (A ⟨w.heap.size+1+1,0,G⟩) 256 256⟩ ι/\Bx ι (w.heap.size+1) (ai 128 (J au 0))/\Bx ι (w.heap.size+1+1+1) (ai 64 (J au 0))/\Bx ι (w.heap.size+1+1) (ai 256 (J au 0))) (zN n.out o.out ?_ ?_ ?_ ?_ ?_) ?_
    ·repeat (first|exact aR _|refine di ?_|refine stA ?_ _)
    ·repeat (first|exact t.out|refine Bx.drew ?_|refine Bx.over ?_ _)
    ·repeat (first|exact Bx.new _ (ai 128 (J au 0)) _ (by simp)|refine Bx.drew ?_|refine Bx.over ?_ _)
    ·repeat (first|exact Bx.new _ (ai 64 (J au 0)) _ (by simp)|refine Bx.drew ?_|refine Bx.over ?_ _)
    ·repeat (first|exact Bx.new _ (ai 256 (J au 0)) _ (by simp)|refine Bx.drew ?_|refine Bx.over ?_ _)
    rintro ι ⟨a,d,f,h⟩;have k:=hid (NG.of l m n.out o.out a.low a.res d f h (by omega) 107);clear a d f h;refine jW 5 (ac (υ (dr l1 l2) ⟨κ a1 l1.length c1,κ a2 l2.length c2,κ (A ⟨w.heap.size+1,0,G⟩) 128 128,κ (A ⟨w.heap.size+1+1+1,0,G⟩) 64 64,κ (A ⟨w.heap.size+1+1,0,G⟩) 256 256⟩).toArray) D (λw' _=>rt 41 2 3 4 5 6 14 _ _ _ _ _ _ D _ _ _ _ _ _ _ D D D D D D (rr a1 a2 l1.length c1 l2.length c2 (w.heap.size+1) (w.heap.size+1+1+1) (w.heap.size+1+1) l1 l2 w')) trivial ?_;refine jW 6 (ac (υ (dr l1 l2) ⟨κ a1 l1.length c1,κ a2 l2.length c2,κ (A ⟨w.heap.size+1,0,G⟩) 128 128,κ (A ⟨w.heap.size+1+1+1,0,G⟩) 64 64,κ (A ⟨w.heap.size+1+1,0,G⟩) 256 256⟩++sj).toArray) D (λw' _=>zM 107 0 _ D _ _ D (xq (dr l1 l2) ⟨κ a1 l1.length c1,κ a2 l2.length c2,κ (A ⟨w.heap.size+1,0,G⟩) 128 128,κ (A ⟨w.heap.size+1+1+1,0,G⟩) 64 64,κ (A ⟨w.heap.size+1+1,0,G⟩) 256 256⟩ w')) trivial ?_;refine gy 7 (λK i=>?_);go_simp;refine i.out _ _ trivial (λ_=>?_)
    clear i K;refine kN (NG w l1 l2 ⟨w.heap.size+1,ι.heap.size,0,0,w.heap.size+1,w.heap.size+1+1+1,w.heap.size+1+1,⟨κ a1 l1.length c1,κ a2 l2.length c2,κ (A ⟨w.heap.size+1,0,G⟩) 128 128,κ (A ⟨w.heap.size+1+1+1,0,G⟩) 64 64,κ (A ⟨w.heap.size+1+1,0,G⟩) 256 256⟩⟩ (dr l1 l2)) k.out ?_;intro Z j;have p:=hid j;clear j;try simp only[ag,xA,xB,xC]
    refine bH 8 trivial ?_;refine wpAnyH_done (by kernel_rfl) ?_ _;try go_simp
    rename_i q _ _;refine q _ _ ?_;go_meet;exact⟨_,D,p.out⟩
  ·refine wpAnyH_ready (rs:=[2,4]) (by kernel_rfl) (by simp) ?_
   refine lD (op:=⟨A 8,_,_,_,_,G⟩) D D 26 _ _ D (J Q 128) (J Q 128) _ D D (lf _ (w.heap.size+1+1) (by simp)) trivial ?_ (lD (op:=⟨A 10,_,_,_,_,G⟩) D D 26 _ _ D (J Q 256) (J Q 256) _ D D (si _ (w.heap.size+1+1) (by simp)) trivial ?_ AllReadyH.nil);all_goals simp only[ag,xA,xB,xC]
   ·refine wpAnyH_ready (rs:=[4]) (by kernel_rfl) (by simp) ?_
    refine lD (op:=⟨A 10,_,_,_,_,G⟩) D D 26 _ _ D (J Q 256) (J Q 256) _ D D (si _ (w.heap.size+1+1+1) (by simp)) trivial ?_ AllReadyH.nil;all_goals simp only[ag,xA,xB,xC]
    refine kN (λι=>NF w l1 l2 ⟨κ a1 l1.length c1,κ a2 l2.length c2,κ (A ⟨w.heap.size+1+1,0,G⟩) 128 128,κ (A ⟨w.heap.size+1,0,G⟩) 64 64,κ (A ⟨w.heap.size+1+1+1,0,G⟩) 256 256⟩ ι/\Bx ι (w.heap.size+1+1) (ai 128 (J au 0))/\Bx ι (w.heap.size+1) (ai 64 (J au 0))/\Bx ι (w.heap.size+1+1+1) (ai 256 (J au 0))) (zN n.out o.out ?_ ?_ ?_ ?_ ?_) ?_
    ·repeat (first|exact aR _|refine di ?_|refine stA ?_ _)
    ·repeat (first|exact t.out|refine Bx.drew ?_|refine Bx.over ?_ _)
    ·repeat (first|exact Bx.new _ (ai 128 (J au 0)) _ (by simp)|refine Bx.drew ?_|refine Bx.over ?_ _)
    ·repeat (first|exact Bx.new _ (ai 64 (J au 0)) _ (by simp)|refine Bx.drew ?_|refine Bx.over ?_ _)
    ·repeat (first|exact Bx.new _ (ai 256 (J au 0)) _ (by simp)|refine Bx.drew ?_|refine Bx.over ?_ _)
    rintro ι ⟨a,d,f,h⟩;have k:=hid (NG.of l m n.out o.out a.low a.res d f h (by omega) 107);clear a d f h;refine jW 5 (ac (υ (dr l1 l2) ⟨κ a1 l1.length c1,κ a2 l2.length c2,κ (A ⟨w.heap.size+1+1,0,G⟩) 128 128,κ (A ⟨w.heap.size+1,0,G⟩) 64 64,κ (A ⟨w.heap.size+1+1+1,0,G⟩) 256 256⟩).toArray) D (λw' _=>rt 41 2 3 4 5 6 14 _ _ _ _ _ _ D _ _ _ _ _ _ _ D D D D D D (rr a1 a2 l1.length c1 l2.length c2 (w.heap.size+1+1) (w.heap.size+1) (w.heap.size+1+1+1) l1 l2 w')) trivial ?_;refine jW 6 (ac (υ (dr l1 l2) ⟨κ a1 l1.length c1,κ a2 l2.length c2,κ (A ⟨w.heap.size+1+1,0,G⟩) 128 128,κ (A ⟨w.heap.size+1,0,G⟩) 64 64,κ (A ⟨w.heap.size+1+1+1,0,G⟩) 256 256⟩++sj).toArray) D (λw' _=>zM 107 0 _ D _ _ D (xq (dr l1 l2) ⟨κ a1 l1.length c1,κ a2 l2.length c2,κ (A ⟨w.heap.size+1+1,0,G⟩) 128 128,κ (A ⟨w.heap.size+1,0,G⟩) 64 64,κ (A ⟨w.heap.size+1+1+1,0,G⟩) 256 256⟩ w')) trivial ?_;refine gy 7 (λK i=>?_);go_simp;refine i.out _ _ trivial (λ_=>?_)
    clear i K;refine kN (NG w l1 l2 ⟨w.heap.size+1,ι.heap.size,0,0,w.heap.size+1+1,w.heap.size+1,w.heap.size+1+1+1,⟨κ a1 l1.length c1,κ a2 l2.length c2,κ (A ⟨w.heap.size+1+1,0,G⟩) 128 128,κ (A ⟨w.heap.size+1,0,G⟩) 64 64,κ (A ⟨w.heap.size+1+1+1,0,G⟩) 256 256⟩⟩ (dr l1 l2)) k.out ?_;intro Z j;have p:=hid j;clear j;try simp only[ag,xA,xB,xC]
    refine bH 8 trivial ?_;refine wpAnyH_done (by kernel_rfl) ?_ _;try go_simp
    rename_i q _ _;refine q _ _ ?_;go_meet;exact⟨_,D,p.out⟩
   ·refine wpAnyH_ready (rs:=[2]) (by kernel_rfl) (by simp) ?_
    refine lD (op:=⟨A 8,_,_,_,_,G⟩) D D 26 _ _ D (J Q 128) (J Q 128) _ D D (lf _ (w.heap.size+1+1+1) (by simp)) trivial ?_ AllReadyH.nil;all_goals simp only[ag,xA,xB,xC]
    refine kN (λι=>NF w l1 l2 ⟨κ a1 l1.length c1,κ a2 l2.length c2,κ (A ⟨w.heap.size+1+1+1,0,G⟩) 128 128,κ (A ⟨w.heap.size+1,0,G⟩) 64 64,κ (A ⟨w.heap.size+1+1,0,G⟩) 256 256⟩ ι/\Bx ι (w.heap.size+1+1+1) (ai 128 (J au 0))/\Bx ι (w.heap.size+1) (ai 64 (J au 0))/\Bx ι (w.heap.size+1+1) (ai 256 (J au 0))) (zN n.out o.out ?_ ?_ ?_ ?_ ?_) ?_
    ·repeat (first|exact aR _|refine di ?_|refine stA ?_ _)
    ·repeat (first|exact t.out|refine Bx.drew ?_|refine Bx.over ?_ _)
    ·repeat (first|exact Bx.new _ (ai 128 (J au 0)) _ (by simp)|refine Bx.drew ?_|refine Bx.over ?_ _)
    ·repeat (first|exact Bx.new _ (ai 64 (J au 0)) _ (by simp)|refine Bx.drew ?_|refine Bx.over ?_ _)
    ·repeat (first|exact Bx.new _ (ai 256 (J au 0)) _ (by simp)|refine Bx.drew ?_|refine Bx.over ?_ _)
    rintro ι ⟨a,d,f,h⟩;have k:=hid (NG.of l m n.out o.out a.low a.res d f h (by omega) 107);clear a d f h;refine jW 5 (ac (υ (dr l1 l2) ⟨κ a1 l1.length c1,κ a2 l2.length c2,κ (A ⟨w.heap.size+1+1+1,0,G⟩) 128 128,κ (A ⟨w.heap.size+1,0,G⟩) 64 64,κ (A ⟨w.heap.size+1+1,0,G⟩) 256 256⟩).toArray) D (λw' _=>rt 41 2 3 4 5 6 14 _ _ _ _ _ _ D _ _ _ _ _ _ _ D D D D D D (rr a1 a2 l1.length c1 l2.length c2 (w.heap.size+1+1+1) (w.heap.size+1) (w.heap.size+1+1) l1 l2 w')) trivial ?_;refine jW 6 (ac (υ (dr l1 l2) ⟨κ a1 l1.length c1,κ a2 l2.length c2,κ (A ⟨w.heap.size+1+1+1,0,G⟩) 128 128,κ (A ⟨w.heap.size+1,0,G⟩) 64 64,κ (A ⟨w.heap.size+1+1,0,G⟩) 256 256⟩++sj).toArray) D (λw' _=>zM 107 0 _ D _ _ D (xq (dr l1 l2) ⟨κ a1 l1.length c1,κ a2 l2.length c2,κ (A ⟨w.heap.size+1+1+1,0,G⟩) 128 128,κ (A ⟨w.heap.size+1,0,G⟩) 64 64,κ (A ⟨w.heap.size+1+1,0,G⟩) 256 256⟩ w')) trivial ?_;refine gy 7 (λK i=>?_);go_simp;refine i.out _ _ trivial (λ_=>?_)
    clear i K;refine kN (NG w l1 l2 ⟨w.heap.size+1,ι.heap.size,0,0,w.heap.size+1+1+1,w.heap.size+1,w.heap.size+1+1,⟨κ a1 l1.length c1,κ a2 l2.length c2,κ (A ⟨w.heap.size+1+1+1,0,G⟩) 128 128,κ (A ⟨w.heap.size+1,0,G⟩) 64 64,κ (A ⟨w.heap.size+1+1,0,G⟩) 256 256⟩⟩ (dr l1 l2)) k.out ?_;intro Z j;have p:=hid j;clear j;try simp only[ag,xA,xB,xC]
    refine bH 8 trivial ?_;refine wpAnyH_done (by kernel_rfl) ?_ _;try go_simp
    rename_i q _ _;refine q _ _ ?_;go_meet;exact⟨_,D,p.out⟩
  ·refine wpAnyH_ready (rs:=[2,3]) (by kernel_rfl) (by simp) ?_
   refine lD (op:=⟨A 8,_,_,_,_,G⟩) D D 26 _ _ D (J Q 128) (J Q 128) _ D D (lf _ (w.heap.size+1+1) (by simp)) trivial ?_ (lD (op:=⟨A 9,_,_,_,_,G⟩) D D 26 _ _ D (J Q 64) (J Q 64) _ D D (oq _ (w.heap.size+1+1) (by simp)) trivial ?_ AllReadyH.nil);all_goals simp only[ag,xA,xB,xC]
   ·refine wpAnyH_ready (rs:=[3]) (by kernel_rfl) (by simp) ?_
    refine lD (op:=⟨A 9,_,_,_,_,G⟩) D D 26 _ _ D (J Q 64) (J Q 64) _ D D (oq _ (w.heap.size+1+1+1) (by simp)) trivial ?_ AllReadyH.nil;all_goals simp only[ag,xA,xB,xC]
    refine kN (λι=>NF w l1 l2 ⟨κ a1 l1.length c1,κ a2 l2.length c2,κ (A ⟨w.heap.size+1+1,0,G⟩) 128 128,κ (A ⟨w.heap.size+1+1+1,0,G⟩) 64 64,κ (A ⟨w.heap.size+1,0,G⟩) 256 256⟩ ι/\Bx ι (w.heap.size+1+1) (ai 128 (J au 0))/\Bx ι (w.heap.size+1+1+1) (ai 64 (J au 0))/\Bx ι (w.heap.size+1) (ai 256 (J au 0))) (zN n.out o.out ?_ ?_ ?_ ?_ ?_) ?_
    ·repeat (first|exact aR _|refine di ?_|refine stA ?_ _)
    ·repeat (first|exact t.out|refine Bx.drew ?_|refine Bx.over ?_ _)
    ·repeat (first|exact Bx.new _ (ai 128 (J au 0)) _ (by simp)|refine Bx.drew ?_|refine Bx.over ?_ _)
    ·repeat (first|exact Bx.new _ (ai 64 (J au 0)) _ (by simp)|refine Bx.drew ?_|refine Bx.over ?_ _)
    ·repeat (first|exact Bx.new _ (ai 256 (J au 0)) _ (by simp)|refine Bx.drew ?_|refine Bx.over ?_ _)
    rintro ι ⟨a,d,f,h⟩;have k:=hid (NG.of l m n.out o.out a.low a.res d f h (by omega) 107);clear a d f h;refine jW 5 (ac (υ (dr l1 l2) ⟨κ a1 l1.length c1,κ a2 l2.length c2,κ (A ⟨w.heap.size+1+1,0,G⟩) 128 128,κ (A ⟨w.heap.size+1+1+1,0,G⟩) 64 64,κ (A ⟨w.heap.size+1,0,G⟩) 256 256⟩).toArray) D (λw' _=>rt 41 2 3 4 5 6 14 _ _ _ _ _ _ D _ _ _ _ _ _ _ D D D D D D (rr a1 a2 l1.length c1 l2.length c2 (w.heap.size+1+1) (w.heap.size+1+1+1) (w.heap.size+1) l1 l2 w')) trivial ?_;refine jW 6 (ac (υ (dr l1 l2) ⟨κ a1 l1.length c1,κ a2 l2.length c2,κ (A ⟨w.heap.size+1+1,0,G⟩) 128 128,κ (A ⟨w.heap.size+1+1+1,0,G⟩) 64 64,κ (A ⟨w.heap.size+1,0,G⟩) 256 256⟩++sj).toArray) D (λw' _=>zM 107 0 _ D _ _ D (xq (dr l1 l2) ⟨κ a1 l1.length c1,κ a2 l2.length c2,κ (A ⟨w.heap.size+1+1,0,G⟩) 128 128,κ (A ⟨w.heap.size+1+1+1,0,G⟩) 64 64,κ (A ⟨w.heap.size+1,0,G⟩) 256 256⟩ w')) trivial ?_;refine gy 7 (λK i=>?_);go_simp;refine i.out _ _ trivial (λ_=>?_)
    clear i K;refine kN (NG w l1 l2 ⟨w.heap.size+1,ι.heap.size,0,0,w.heap.size+1+1,w.heap.size+1+1+1,w.heap.size+1,⟨κ a1 l1.length c1,κ a2 l2.length c2,κ (A ⟨w.heap.size+1+1,0,G⟩) 128 128,κ (A ⟨w.heap.size+1+1+1,0,G⟩) 64 64,κ (A ⟨w.heap.size+1,0,G⟩) 256 256⟩⟩ (dr l1 l2)) k.out ?_;intro Z j;have p:=hid j;clear j;try simp only[ag,xA,xB,xC]
    refine bH 8 trivial ?_;refine wpAnyH_done (by kernel_rfl) ?_ _;try go_simp
    rename_i q _ _;refine q _ _ ?_;go_meet;exact⟨_,D,p.out⟩
   ·refine wpAnyH_ready (rs:=[2]) (by kernel_rfl) (by simp) ?_
    refine lD (op:=⟨A 8,_,_,_,_,G⟩) D D 26 _ _ D (J Q 128) (J Q 128) _ D D (lf _ (w.heap.size+1+1+1) (by simp)) trivial ?_ AllReadyH.nil;all_goals simp only[ag,xA,xB,xC]
    refine kN (λι=>NF w l1 l2 ⟨κ a1 l1.length c1,κ a2 l2.length c2,κ (A ⟨w.heap.size+1+1+1,0,G⟩) 128 128,κ (A ⟨w.heap.size+1+1,0,G⟩) 64 64,κ (A ⟨w.heap.size+1,0,G⟩) 256 256⟩ ι/\Bx ι (w.heap.size+1+1+1) (ai 128 (J au 0))/\Bx ι (w.heap.size+1+1) (ai 64 (J au 0))/\Bx ι (w.heap.size+1) (ai 256 (J au 0))) (zN n.out o.out ?_ ?_ ?_ ?_ ?_) ?_
    ·repeat (first|exact aR _|refine di ?_|refine stA ?_ _)
    ·repeat (first|exact t.out|refine Bx.drew ?_|refine Bx.over ?_ _)
    ·repeat (first|exact Bx.new _ (ai 128 (J au 0)) _ (by simp)|refine Bx.drew ?_|refine Bx.over ?_ _)
    ·repeat (first|exact Bx.new _ (ai 64 (J au 0)) _ (by simp)|refine Bx.drew ?_|refine Bx.over ?_ _)
    ·repeat (first|exact Bx.new _ (ai 256 (J au 0)) _ (by simp)|refine Bx.drew ?_|refine Bx.over ?_ _)
    rintro ι ⟨a,d,f,h⟩;have k:=hid (NG.of l m n.out o.out a.low a.res d f h (by omega) 107);clear a d f h;refine jW 5 (ac (υ (dr l1 l2) ⟨κ a1 l1.length c1,κ a2 l2.length c2,κ (A ⟨w.heap.size+1+1+1,0,G⟩) 128 128,κ (A ⟨w.heap.size+1+1,0,G⟩) 64 64,κ (A ⟨w.heap.size+1,0,G⟩) 256 256⟩).toArray) D (λw' _=>rt 41 2 3 4 5 6 14 _ _ _ _ _ _ D _ _ _ _ _ _ _ D D D D D D (rr a1 a2 l1.length c1 l2.length c2 (w.heap.size+1+1+1) (w.heap.size+1+1) (w.heap.size+1) l1 l2 w')) trivial ?_;refine jW 6 (ac (υ (dr l1 l2) ⟨κ a1 l1.length c1,κ a2 l2.length c2,κ (A ⟨w.heap.size+1+1+1,0,G⟩) 128 128,κ (A ⟨w.heap.size+1+1,0,G⟩) 64 64,κ (A ⟨w.heap.size+1,0,G⟩) 256 256⟩++sj).toArray) D (λw' _=>zM 107 0 _ D _ _ D (xq (dr l1 l2) ⟨κ a1 l1.length c1,κ a2 l2.length c2,κ (A ⟨w.heap.size+1+1+1,0,G⟩) 128 128,κ (A ⟨w.heap.size+1+1,0,G⟩) 64 64,κ (A ⟨w.heap.size+1,0,G⟩) 256 256⟩ w')) trivial ?_;refine gy 7 (λK i=>?_);go_simp;refine i.out _ _ trivial (λ_=>?_)
    clear i K;refine kN (NG w l1 l2 ⟨w.heap.size+1,ι.heap.size,0,0,w.heap.size+1+1+1,w.heap.size+1+1,w.heap.size+1,⟨κ a1 l1.length c1,κ a2 l2.length c2,κ (A ⟨w.heap.size+1+1+1,0,G⟩) 128 128,κ (A ⟨w.heap.size+1+1,0,G⟩) 64 64,κ (A ⟨w.heap.size+1,0,G⟩) 256 256⟩⟩ (dr l1 l2)) k.out ?_;intro Z j;have p:=hid j;clear j;try simp only[ag,xA,xB,xC]
    refine bH 8 trivial ?_;refine wpAnyH_done (by kernel_rfl) ?_ _;try go_simp
    rename_i q _ _;refine q _ _ ?_;go_meet;exact⟨_,D,p.out⟩
 case rest =>
 obtain⟨F,rfl,M⟩:=hcut;have k:=hid M;have hg:=M.gd.bx.z;clear M;go_wp2_with (first
  | (go_at_call 49;refine(zn9 F.g _).mono ?_;rintro e w2 ⟨rfl,x,y⟩;have r:=hid (k.out.kept x);have N:=hid (MainV.pu k.out.gd y);have hg2:=r.out.gd.bx.z;clear x y)
  | (go_at_call 48;refine(zrI r.out.gd N.out.g).mono ?_;rintro e w3 ⟨rfl,B⟩;have s:=hid (r.out.kept B);have hg3:=s.out.gd.bx.z;clear B)
  | (refine wpList_store_mid D 25 _ _ D F.g 0 (j5 ((dr l1 l2).lookM 0*256+(dr l1 l2).lookM 1)).toArray D D (s.out.gd.bx.there 0 15 (by rw[F.len];omega)) sX (zu _) ?_
     refine Pl.cutL (NG w l1 l2 F (dv l1 l2)) (NG.main s.out) ?_;intro V P;have E:=hid P;have hgv:=P.gd.bx.z;clear P)
  | (refine wpList_load_mid D 41 _ D F.g 0 D (υ (dv l1 l2) F.S) _ E.out.gd.row underlying41 D cn ?_)
  | (refine wpList_store_mid D 41 _ _ D w.heap.size 0 (υ (dv l1 l2) F.S).toArray D D (E.out.res.there 0 75 (by rw[dG];omega)) cn (iq _ _ E.out.gd.isSl) ?_
     refine Pl.cutL (λX=>Below w.heap.size w X/\Bx X w.heap.size (υ (dv l1 l2) F.S)/\cf X F.S (dv l1 l2)) (NG.fin E.out) ?_;rintro X ⟨H,I,L⟩;have R:=hid H;have T:=hid I;have U:=hid L;clear H I L))
 have hl:=vQ _ _ T.out.c;refine Ξ (v:=ac (υ (dv l1 l2) F.S).toArray) ?_ D ⟨F.S,D,U.out,E.out.gd.fit,R.out⟩;simp only[results,results23];simp;exact Pl.res hl
section
variable {F : Gx} {N ob : Nat} {vl vs : π} {w w1 : u} {s s' : Bst} {ln : List Lin} {sm : List UInt8} {M : Mach}
variable {W W1 : u}
theorem GV.trans{vl' vs':π}{s':Bst}{ln':List Lin}{sm':List UInt8}{g:u}(h:GV F N ob vl vs w s ln sm W)(h2:GV F N ob vl' vs' W s' ln' sm' g):GV F N ob vl' vs' w s' ln' sm' g :=
 ⟨h2.c,h.b.trans h2.b,λk d=>by
   obtain⟨e,e1,e2⟩:=h.q k d;have f:Kpt N ob W k:=⟨d.n,by obtain⟨cs,t,fr,e3,i⟩:=d.t;exact⟨cs,t,fr,e.trans e3,i⟩,λθ a=>by rw[Lib.cell_of_heap h.c.ob 0] at a;cases a;exact e1,λθ a=>by rw[Lib.cell_of_heap h.c.ob 1] at a;cases a;exact e2⟩
   obtain⟨g0,g1,j⟩:=h2.q k f;exact⟨g0.trans e,g1,j⟩⟩
end
section
variable {F : Gx} {N ob : Nat} {vl vs v : π} {w W W1 : u} {inp : List Inp} {k : Cs}
structure GR (F : Gx) (N ob : Nat) (w w0 : u) (k : Cs) (W : u) : Prop where
 g:∃ vl vs,GV F N ob vl vs w0 k.s k.ln k.sm W
 r:RR w (υ aD aP) [κ G 0 0,κ G 0 0,κ G 0 0] W
structure GE (F : Gx) (N ob : Nat) (w : u) (k : Cs) (vl vs vw : π) (L1 L2 : List π) (ι : u) : Prop where
 r:RR w L1 L2 ι
 gd:Gd F ι k.s.M ⟨k.s.n,k.s.l,vw⟩
 o:Bx ι ob [vl,vs,vw]
 ln:ι.ownsRow N 68 18 vl k.ln.length (nj k.ln)
 sm:ι.ownsRow N 5 1 vs k.sm.length (gJ k.sm)
 lo:∀ k,F.all k->F.B<=k
 z:w.heap.size+3<=F.B/\F.B<=N/\N<=ob
theorem GE.s{L1 L2:List π}{vw:π}(h:GE F N ob w k vl vs vw L1 L2 W):W.rangeAt F.g 0 (υ k.s.M F.S)/\W.rangeAt ob 0 [vl,vs,vw]:=⟨h.gd.row,h.o.c⟩
theorem GE.kept{L1 L2:List π}{vw:π}(h:GE F N ob w k vl vs vw L1 L2 W)(hb:Below W.heap.size W W1):GE F N ob w k vl vs vw L1 L2 W1 :=
 ⟨h.r.kept hb,h.gd.kept hb,h.o.kept hb,jr h.ln (λj e=>hb.block j (jE h.ln j e).2.1),jr h.sm (λj e=>hb.block j (jE h.sm j e).2.1),h.lo,h.z⟩
theorem GE.puts{L1 L2 a c:List π}{vw:π}(h:GE F N ob w k vl vs vw L1 L2 W)(b:Nat)(hb:b<F.B)(L:List π)(d:RR w a c (W.setCells b 0 L)):GE F N ob w k vl vs vw a c (W.setCells b 0 L):=by
 obtain⟨i,z2,z3⟩:=h.z
 exact⟨d,h.gd.of_same (cq (pN _ _ _ _).symm) (λj _ f=>ji (by have:=h.lo j f;omega) _ _ _) (λj g=>ji (by have:=(jE h.gd.ws j g).1;omega) _ _ _),DW.bb h.o (by omega),
  jr h.ln (λj e=>ji (by have:=(jE h.ln j e).1;omega) _ _ _),jr h.sm (λj e=>ji (by have:=(jE h.sm j e).1;omega) _ _ _),h.lo,h.z⟩
theorem GE.put1{L2:List π}{vw:π}(h:GE F N ob w k vl vs vw (υ aD aP) L2 W):GE F N ob w k vl vs vw (υ k.s.M F.S) L2 (W.setCells (w.heap.size+1) 0 (υ k.s.M F.S)):=by
 obtain⟨b,z2,z3⟩:=h.z;have a:=h.r.b1.puts 0 (υ k.s.M F.S) (by rw[dG,dG];omega);rw[mK _ _ (by rw[dG,dG])] at a;exact h.puts _ (by omega) _ ⟨ni h.r.low (by omega) _ _,a,DW.bb h.r.b2 (by omega)⟩
theorem GE.put2{L1:List π}{vw x y z:π}(h:GE F N ob w k vl vs vw L1 [x,y,z] W):GE F N ob w k vl vs vw L1 [vl,vs,vw] (W.setCells (w.heap.size+2) 0 [vl,vs,vw]):=by
 obtain⟨b,z2,z3⟩:=h.z;have a:=h.r.b2.puts 0 [vl,vs,vw] (by simp);rw[mK _ _ (by simp)] at a;exact h.puts _ (by omega) _ ⟨ni h.r.low (by omega) _ _,DW.bb h.r.b1 (by omega),a⟩
theorem GE.of{L1 L2:List π}{vw:π}{w0:u}(b:GK F N ob)(h:GV F N ob vl vs w0 k.s k.ln k.sm W)(r:RR w L1 L2 W)(p:Gd F W k.s.M ⟨k.s.n,k.s.l,vw⟩)(g:∀ k,F.all k->F.B<=k)(q:w.heap.size+3<=F.B):GE F N ob w k vl vs vw L1 L2 (W.setCell ⟨ob,2,G⟩ vw):=by
 have a:=h.c.ob;have far:∀ j,j≠ob->(W.setCell ⟨ob,2,G⟩ vw).heap[j]?=W.heap[j]?:=λj d=>f8 d
 have hB:=b.B;have i:Below F.B W (W.setCell ⟨ob,2,G⟩ vw):=Pl.below (ax hB b.ob) [vw] 2 W ((aR W).mono h.c.big);have e:(W.setCell ⟨ob,2,G⟩ vw).heap[ob]?=A (χ ([vl,vs,vw]:List π).toArray 47 (0,0)):=vN a vw
 refine⟨r.far q i,p.of_same (by simp) (λj _ t=>far j (by have:=b.all j t;have:=b.ob;omega)) (λj d=>far j (λf=>?_)),⟨(aa.1 e).1,λj v d=>(Lib.cell_of_heap e (0+j)).trans (by rw[aX,ch];exact d),λo=>Lib.frozen_of_heap e o⟩,
  jr h.c.ln (λj m=>far j (λf=>?_)),jr h.c.sm (λj m=>far j (λf=>?_)),g,q,hB,b.ob⟩
 ·obtain⟨cs,fr,e2⟩:=p.wty j d
  subst f;rw[a] at e2;simp only[aZ,eJ] at e2;exact absurd e2.2.1 (by decide)
 ·subst f;exact mL h.c.ln a (by decide) m
 ·subst f;exact mL h.c.sm a (by decide) m
theorem Rk.run(M:Mach)(S:Sl)(v:π)(n:Nat)(w:u)(hs:cf w S M)(hsz:∀ j,j<5->(M.byt j).length<=140737488355328)(hF:Facts w)(hg:1<w.heap.size/\0<w.heap.size/\2<w.heap.size)(hin:bP w.heap.size w v inp)(hf:M.fit)(hok:∀ x∈inp,x.ok)(hli:inp.length<=40)(hc:chkIn inp M.clock=0)(hn:n<=200000)
 (hm:∀ j,j<n->(Cs.clocks ⟨⟨M,0,[]⟩,inp,[],[]⟩ j).may) :
 Δ ω 16 #[ac (υ M S).toArray,v,J Q n] w λe w'=>∃(F:Gx) (N:Nat) (vl vs vw:π),e=μ (Ψ #[ac (υ (Cs.clocks ⟨⟨M,0,[]⟩,inp,[],[]⟩ n).s.M F.S).toArray,ac #[vl,vs,vw]])/\cf w' F.S (Cs.clocks ⟨⟨M,0,[]⟩,inp,[],[]⟩ n).s.M/\(Cs.clocks ⟨⟨M,0,[]⟩,inp,[],[]⟩ n).s.M.fit /\
  w'.ownsRow N 68 18 vl (Cs.clocks ⟨⟨M,0,[]⟩,inp,[],[]⟩ n).ln.length (nj (Cs.clocks ⟨⟨M,0,[]⟩,inp,[],[]⟩ n).ln)/\w'.ownsRow N 5 1 vs (Cs.clocks ⟨⟨M,0,[]⟩,inp,[],[]⟩ n).sm.length (gJ (Cs.clocks ⟨⟨M,0,[]⟩,inp,[],[]⟩ n).sm) /\
  w'.ownsRow F.B 104 3 vw (Cs.clocks ⟨⟨M,0,[]⟩,inp,[],[]⟩ n).s.l.length (oC (Cs.clocks ⟨⟨M,0,[]⟩,inp,[],[]⟩ n).s.l)/\w.heap.size<=F.B/\Below w.heap.size w w':=by
 obtain⟨k0,p⟩:∃ k0:Cs,k0=⟨⟨M,0,[]⟩,inp,[],[]⟩:=⟨_,D⟩
 rw[<- p] at hm ⊢;have HD0:=hid (by rw[p];exact vV.of hc:vV inp k0);have HK0:=hid p;have hBm:=Bx.new w (υ M S) 41 (b:=w.heap.size) D;have hW:Below w.heap.size w (((w.alloc (χ (υ M S).toArray 41)).alloc (χ (υ aD aP).toArray 41)).alloc (χ #[κ G 0 0,κ G 0 0,κ G 0 0] 47)):=stA (stA (stA (aR w) _) _) _;have HRR:Hid (RR w (υ aD aP) [κ G 0 0,κ G 0 0,κ G 0 0] (((w.alloc (χ (υ M S).toArray 41)).alloc (χ (υ aD aP).toArray 41)).alloc (χ #[κ G 0 0,κ G 0 0,κ G 0 0] 47))) :=
  ⟨hW,(Bx.new (w.alloc (χ (υ M S).toArray 41)) (υ aD aP) 41 (b:=w.heap.size+1) (by simp)).over _,Bx.new ((w.alloc (χ (υ M S).toArray 41)).alloc (χ (υ aD aP).toArray 41)) [κ G 0 0,κ G 0 0,κ G 0 0] 47 (b:=w.heap.size+2) (by simp)⟩
 have HBM:=hid ((hBm.over (χ (υ aD aP).toArray 41)).over (χ #[κ G 0 0,κ G 0 0,κ G 0 0] 47));have HS:=hid (hs.kept hW);have HFX:=hid (hF.kept hW);have HIN:=hid ((hin.kept hW));have HG:=hid hg;have HF:=hid hf;have HSZ:=hid hsz;have HM:=hid hm;have HOK:=hid hok;have HLI:=hid hli;have HN:=hid hn;clear hs hF hin hf hok hc hn hm hBm hW p hg hsz hli;go_enter func16,ntmps16;go_upto_region 3 with(first
  | (refine wpList_load_mid D 41 _ D w.heap.size 0 D (υ M S) _ HBM.out.c underlying41 D cn ?_)
  | (go_at_call 8;refine(wB M S _ HS.out HSZ.out).mono ?_;rintro e w1 ⟨S1,rfl,hO,R⟩;have HO:Hid (OwnS (w.heap.size+5) S1 M w1):=hid (by simpa using hO);have HR1:=hid (HRR.out.kept R);have q:=hid R;clear hO R)
  | (refine zcX D 107 0 _ D (ac (υ M S1).toArray) _ D (xq M S1 _) ?_))
 have hB1:w.heap.size+5<=w1.heap.size:=by
  obtain⟨kk,cap,_,_,hBk,hbx,_⟩:=HO.out.own 0 (by omega);have:=hbx.z;omega
 obtain⟨F,T,hFg,hlo,hGK,U⟩:=zyg HO.out HF.out hB1 (HFX.out.kept q.out) (by have:=HG.out;omega) 107;obtain⟨w2,t⟩:∃ w2,w2=((w1.alloc (χ (υ M S1++sj).toArray 107)).alloc (χ #[κ G 0 0,κ G 0 0,κ G 0 0] 47)):=⟨_,D⟩
 rw[<- t] at U;have W:Below w1.heap.size w1 w2:=by rw[t];exact stA (stA (aR w1) _) _
 have HR2:=hid (HR1.out.kept W)
 have HIN2:Hid (bP F.B w2 v inp):=hid (by
  rw[T];exact(((HIN.out.kept (q.out.mono (by simp <;> omega))).kept (W.mono (by omega))).mono (by omega)))
 have HGK:=hid hGK;have HLO:=hid hlo;have HGC:=hid U;have HFB:=hid T;rw[<- hFg] at *;clear hGK U hlo W HBM HRR HS HFX HIN HR1 q HO hB1 T;have HGR0:Hid (GR F (F.g+1) (F.g+1) w w2 k0 w2):=hid ⟨⟨_,_,GV.start (by rw[HK0.out];exact HGC.out)⟩,HR2.out⟩;have HW2:=hid t;refine Pl.cutW (GR F (F.g+1) (F.g+1) w w2 k0) (by rw[<- HW2.out];exact HGR0.out) ?_;intro ι hY;have y:=hid hY;clear hY t HGC HR2 HGR0;have I:w.heap.size+3<=F.B:=by have:=HFB.out;omega
 have HFB3:=hid I;clear I;go_wp2;go_loopw [15] (λi wr=>∃ j:Nat,j<=n/\i=J Q j/\GR F (F.g+1) (F.g+1) w w2 (k0.clocks j) wr) (λi _=>n-(intOf i).toNat)
 case atStart=>exact⟨0,bh _,D,y.out⟩
 case round =>
  obtain⟨j,hj,rfl,hX⟩:=hrel;obtain⟨⟨a,d,hG⟩,hR⟩:=hX;have f:=hid hG;have HR:=hid hR;clear y hG hR;by_cases E:j<n
  ·have HLT:=hid E
   have hjl:(j:Int)<n:=by omega
   have hj0:(0:Int)<=j:=by omega
   have hjb:(j:Int)<200000:=by have:=HN.out;omega
   have HNX:=hid (zyf HGK.out f.out.c (HIN2.out.kept f.out.b) HOK.out HLI.out (HD0.out.clocks j) (HM.out j E));go_wp2_with (go_at_call 41;refine HNX.out.mono ?_;rintro e w4 ⟨rfl,vl2,vs2,X⟩;have HX2:Hid (GR F (F.g+1) (F.g+1) w w2 (k0.clocks (j+1)) w4):=hid ⟨⟨vl2,vs2,f.out.trans X⟩,HR.out.far HFB3.out X.b⟩;clear X)
   go_roundw
   case rel=>exact⟨j+1,HLT.out,by go_num,HX2.out⟩
   case measure=>have E:=HLT.out;simp[intOf];omega
  ·have hjn:j=n:=by omega
   subst hjn;have hnl:¬ (j:Int)<j:=by omega
   obtain⟨k,hk⟩:∃ k,k=k0.clocks j:=⟨_,D⟩
   rw[<- hk] at f;have m:=hid hk;obtain⟨vw,h⟩:=f.out.c.gd;obtain⟨o,nw,cw,ew0⟩:=ol h.ws;have ew:vw=κ o nw cw:=ew0;clear ew0;subst ew;have m75:=h.at 75 (κ o nw cw) D;have o2:=Lib.cell_of_heap f.out.c.ob 2;have of:=λi=>Lib.frozen_of_heap f.out.c.ob i
   have oz:=f.out.c.lt;have gz:=h.bx.z;have HE:=hid (GE.of HGK.out f.out HR.out h HLO.out HFB3.out);have HSI:Hid F.S.isSl:=hid h.isSl;have q:Hid (F.B<=F.g):=hid h.nd.lo.1;clear h hk E;go_upto_region 8 with fail
   refine Pl.cutW (GE F (F.g+1) (F.g+1) w k a d (κ o nw cw) (υ aD aP) [κ G 0 0,κ G 0 0,κ G 0 0]) HE.out ?_;intro Y1 hY1;have y:=hid (hY1.kept (aR Y1).drew);clear hY1 HE m75 o2 of oz gz f HR;refine wp_region_held_drew (S:=λw'=>w'.rangeAt F.g 0 (υ k.s.M F.S)/\w'.rangeAt (F.g+1) 0 [a,d,κ o nw cw]) (by kernel_rfl) (y.out.s) ?_;intro hS;refine dy 0 ⟨A 26,_,_,_,_,G⟩ hS ?_;simp only[ag,xA,xB,xC];refine dy 1 ⟨A 27,_,_,_,_,G⟩ hS ?_;simp only[ag,xA,xB,xC];refine dy 2 ⟨A 28,_,_,_,_,G⟩ hS ?_;simp only[ag,xA,xB,xC];refine jW 3 (ac (υ k.s.M F.S).toArray) D (λw' Z=>ml 41 _ D F.g 0 D (υ k.s.M F.S) _ Z.1 underlying41 D cn) hS ?_;refine jW 4 (ac ([a,d,κ o nw cw]:List π).toArray) D (λw' Z=>ml 47 _ D (F.g+1) 0 D ([a,d,κ o nw cw]) _ Z.2 underlying47 D kX) hS ?_;have H:=hid y.out.put1;refine tK (i:=5) (op:=⟨G,_,_,_,_,G⟩) (by kernel_rfl) D D 41 _ _ D (w.heap.size+1) 0 (υ k.s.M F.S).toArray D D (y.out.r.b1.there 0 75 (by rw[dG];omega)) cn (iq _ _ HSI.out) H.out.s ?_
   have HY2:=hid H.out.put2;have hth:=H.out.r.b2.there 0 3 (by simp);obtain⟨al,nl,cl,el⟩:=ol y.out.ln;obtain⟨aS,nS,cS,es⟩:=ol y.out.sm;have L:(([a,d,κ o nw cw]:List π)).toArray.all (·.oneCell')=Γ:=by rw[el,es];simp[bi]
   have hss:=HY2.out.s;clear hS;refine tK (i:=6) (op:=⟨G,_,_,_,_,G⟩) (by kernel_rfl) D D 47 _ _ D (w.heap.size+2) 0 #[a,d,κ o nw cw] D D hth kX L hss ?_;refine wpAnyH_done (by kernel_rfl) ?_ _;refine Pl.cutE (GE F (F.g+1) (F.g+1) w k a d (κ o nw cw) (υ k.s.M F.S) [a,d,κ o nw cw]) HY2.out ?_;intro V hV;have P:=hid hV;clear hV y H HY2 hth L hss el es;go_wp2;refine Ξ (v:=Ψ #[ac (υ k.s.M F.S).toArray,ac #[a,d,κ o nw cw]]) ?_ D ⟨F,F.g+1,a,d,κ o nw cw,by rw[<- m.out],by rw[<- m.out];exact P.out.gd.slAt,by rw[<- m.out];exact P.out.gd.fit,by rw[<- m.out];exact P.out.ln,by rw[<- m.out];exact P.out.sm,by rw[<- m.out];exact P.out.gd.ws,by have:=HFB3.out;omega,P.out.r.low⟩;have l1:=run_loadVar_mid V (w.heap.size+1) 0 41 _ _ P.out.r.b1.c underlying41 D cn;have l2:=run_loadVar_mid V (w.heap.size+2) 0 47 _ _ P.out.r.b2.c underlying47 D kX;simp only[results,results16];simp;show (aE (bL ω (bC 41 ⟨w.heap.size+1,0,G⟩) V) _)=_
   rw[l1];show (aE (bL ω (bC 47 ⟨w.heap.size+2,0,G⟩) V) _)=_;rw[l2];rfl
end
theorem zot(s:Bst)(h:s.l.length<=1000000):s.stepAux.l.length<=s.l.length+4:=by
 unfold Bst.stepAux;split
 ·omega
 ·have c:=C.fuel_step (m:=cL) (λs a=>ψ _) (λs a b=>by
   have:=zjQ s.M a (b%256);show 1000000001-s.l.length<=1000000001-(s.l++s.M.shA a (b%256)).length+1;rw[az];omega) s.M.aux s s.M.rung
  have d:1000000001-s.l.length<=1000000001-(C.step cL s.M.aux s s.M.rung).s.l.length+4:=c;show (C.step cL s.M.aux s s.M.rung).s.l.length<=_;omega
theorem zdL(k0:Cs)(a:k0.ln=[]/\k0.sm=[]/\k0.s.l=[]):∀ j:Nat,j<=20000->(k0.clocks j).ln.length<=j/\(k0.clocks j).sm.length<=j/\(k0.clocks j).s.l.length<=4*j
 | 0,_=>⟨by show k0.ln.length<=0;rw[a.1];simp,by show k0.sm.length<=0;rw[a.2.1];simp,by show k0.s.l.length<=4*0;rw[a.2.2];simp⟩
 | j+1,d=>by
  obtain⟨c,i2,i3⟩:=zdL k0 a j (by omega);obtain⟨k,b⟩:∃ k,k=k0.clocks j:=⟨_,D⟩
  have e:k0.clocks (j+1)=k.clock:=by rw[b];rfl
  rw[<- b] at c i2 i3;rw[e];refine⟨?_,?_,?_⟩
  ·show (k.ln++(k.s.M.pressed k.co).line).length<=_
   have:=zj8 (k.s.M.pressed k.co);rw[az];omega
  ·show (k.sm++(k.s.M.pressed k.co).sample).length<=_
   have:=AU (k.s.M.pressed k.co);rw[az];omega
  ·show ((Bst.stepMain ⟨k.s.M.pressed k.co,k.s.n,k.s.l⟩).stepAux).l.length<=_
   have h1:(Bst.stepMain ⟨k.s.M.pressed k.co,k.s.n,k.s.l⟩).l=k.s.l:=zQ _;have h2:=zot (Bst.stepMain ⟨k.s.M.pressed k.co,k.s.n,k.s.l⟩) (by rw[h1];omega);rw[h1] at h2;omega
structure LawR (w5 : u) (X : Mach) (SX : Sl) (p1 p2 p3 : π) (ln : List Lin) (sm : List UInt8) (ws : List Wt) (ι : u) : Prop where
 r:R3 w5 X SX [p1,p2,p3] ι
 sx:cf ι SX X
 sh:ShAt ι p1 p2 p3 ln sm ws
section
variable {w w1 ι Y' : u} {b1 : Nat} {M X : Mach} {S S1 SX : Sl} {v p1 p2 p3 : π} {l : List Inp} {ln : List Lin} {sm : List UInt8} {ws : List Wt}
theorem LawR.kept(h:LawR w1 X SX p1 p2 p3 ln sm ws ι)(hb:Below ι.heap.size ι Y'):LawR w1 X SX p1 p2 p3 ln sm ws Y':=⟨h.r.kept hb,h.sx.kept hb,h.sh.kept hb⟩
theorem wF(V:u):cf V aP aD:=λj a=>by
 have hc:j=0 \/ j=1 \/ j=2 \/ j=3 \/ j=4:=by omega
 rcases hc with rfl|rfl|rfl|rfl|rfl <;> exact aj ⟨G,0,D,D⟩
theorem sH(V:u):ShAt V (κ G 0 0) (κ G 0 0) (κ G 0 0) [] [] []:=⟨⟨D,aj ⟨D,G,0,D⟩⟩,aj ⟨G,0,D,D⟩,⟨D,aj ⟨D,G,0,D⟩⟩⟩
theorem zqr{F:Fx}{N:Nat}{k:Cs}{vln vsm vw:π}{w:u}(h:Told F N k vln vsm vw w):ShAt w vln vsm vw k.ln k.sm k.s.l:=⟨vU h.ln,zda h.sm,vU h.ws⟩
end
theorem yw(w:u):Δ ω 13 #[ac (υ aD aP).toArray] w λe w'=>e=μ (ν Γ)/\Below w.heap.size w w':=by
 have d:=hid (Bx.new w (υ aD aP) 41 (b:=w.heap.size) D);go_enter func13,ntmps13;go_wp2_with (first
  | (refine wpList_load_mid D 41 _ D w.heap.size 0 D (υ aD aP) _ d.out.c underlying41 D cn ?_)
  | (refine zeN D 41 D _ (zqk _) ?_)
  | (go_at_call 12;refine(rv aD aP aP _ (wF _) (wF _)).mono ?_;rintro e w4 ⟨rfl,a⟩))
 go_ret;exact⟨D,bw (stA (aR w) _) a⟩
def sB(M X:Mach)(v:π)(l:List Inp)(n:Int)(ln:List Lin)(sm:List UInt8)(ws:List Wt):Prop :=
 ∀(S:Sl) (W:u),S.lens M->(∀ j,j<5->(M.byt j).length<=140737488355328)->cf W S M->Facts W->bP W.heap.size W v l->Δ ω 16 #[ac (υ M S).toArray,v,J Q n] W λe w' =>
  ∃(SX:Sl) (a1 a2 a3:Option Addr) (a b c c1 c2 c3:Nat),e=μ (Ψ #[ac (υ X SX).toArray,ac #[κ a1 a c1,κ a2 b c2,κ a3 c c3]])/\cf w' SX X/\ShAt w' (κ a1 a c1) (κ a2 b c2) (κ a3 c c3) ln sm ws/\Below W.heap.size W w'
theorem zov{M:Mach}{v:π}{l:List Inp}{n:Nat}{K:Cs}(m:K=Cs.clocks ⟨⟨M,0,[]⟩,l,[],[]⟩ n)(h:M.fit)(a:∀ x∈l,x.ok)(hc:chkIn l M.clock=0)(o:n<=20000/\M.clock+n<=200000)(c:M.b.f<=19900):sB M K.s.M v l n K.ln K.sm K.s.l:=λS w _ p q i d=>by
 have g:l.length<=40:=(wE hc).1;refine(Rk.run M S v n w q p i (zou i) d h a g hc (by omega) (λj r=>xV h c o r)).mono ?_;rw[<- m];rintro e w' ⟨F,N,vl,vs,vw,rfl,h1,h2,h3,h4,k,E,t⟩;obtain⟨a1,y,c1,e1⟩:=ol h3;obtain⟨a2,z,c2,e2⟩:=ol h4;obtain⟨a3,B,c3,e3⟩:=ol k;subst e1 e2 e3;exact⟨F.S,a1,a2,a3,y,z,B,c1,c2,c3,D,h1,⟨vU h3,zda h4,vU k⟩,t⟩
end Go.Proofs.YthghjlinhokimaaGreatDoor
