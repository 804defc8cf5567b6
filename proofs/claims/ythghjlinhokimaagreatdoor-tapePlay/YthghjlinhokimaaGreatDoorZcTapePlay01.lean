/-
  Parts of a proof, joined.
-/
import Derived.Test.YthghjlinhokimaaGreatDoorZcA
import Derived.Test.YthghjlinhokimaaGreatDoorZc43
set_option linter.all false
set_option maxRecDepth 100000
set_option maxHeartbeats 6400000
namespace Go.Proofs
open Go.Shelf
def Tryz.laysC172_ren:Go.Shelf.Ren:=⟨fun|172=>170|244=>229|245=>230|247=>263|279=>267|280=>268|281=>269|282=>270|287=>333|316=>335|171=>104|205=>336|321=>362|322=>363|243=>177|246=>238|283=>276|284=>277|285=>278|286=>279|129=>341|317=>340|318=>342|319=>343|320=>344|337=>367|338=>368|n=>n,fun|9=>9|3=>3|75=>175|76=>176|4=>4|5=>5|167=>340|37=>26|0=>0|85=>287|2=>2|168=>341|53=>350|175=>385|46=>304|210=>391|127=>256|145=>419|143=>417|21=>21|171=>349|173=>353|212=>397|51=>346|20=>20|213=>398|232=>436|233=>437|80=>180|n=>n,fun|15=>4|16=>5|17=>6|18=>9|19=>10|n=>n⟩
theorem Tryz.laysC172:Go.Proofs.LaysC.n172 prog Tryz.laysC172_ren:={
 mixed:=by kernel_rfl
 f129:=Tryz.func341.trans (congrArg some (by kernel_rfl))
 f171:=Tryz.func104.trans (congrArg some (by kernel_rfl))
 f172:=Tryz.func170.trans (congrArg some (by kernel_rfl))
 f205:=Tryz.func336.trans (congrArg some (by kernel_rfl))
 f243:=Tryz.func177.trans (congrArg some (by kernel_rfl))
 f244:=Tryz.func229.trans (congrArg some (by kernel_rfl))
 f245:=Tryz.func230.trans (congrArg some (by kernel_rfl))
 f246:=Tryz.func238.trans (congrArg some (by kernel_rfl))
 f247:=Tryz.func263.trans (congrArg some (by kernel_rfl))
 f279:=Tryz.func267.trans (congrArg some (by kernel_rfl))
 f280:=Tryz.func268.trans (congrArg some (by kernel_rfl))
 f281:=Tryz.func269.trans (congrArg some (by kernel_rfl))
 f282:=Tryz.func270.trans (congrArg some (by kernel_rfl))
 f283:=Tryz.func276.trans (congrArg some (by kernel_rfl))
 f284:=Tryz.func277.trans (congrArg some (by kernel_rfl))
 f285:=Tryz.func278.trans (congrArg some (by kernel_rfl))
 f286:=Tryz.func279.trans (congrArg some (by kernel_rfl))
 f287:=Tryz.func333.trans (congrArg some (by kernel_rfl))
 f316:=Tryz.func335.trans (congrArg some (by kernel_rfl))
 f317:=Tryz.func340.trans (congrArg some (by kernel_rfl))
 f318:=Tryz.func342.trans (congrArg some (by kernel_rfl))
 f319:=Tryz.func343.trans (congrArg some (by kernel_rfl))
 f320:=Tryz.func344.trans (congrArg some (by kernel_rfl))
 f321:=Tryz.func362.trans (congrArg some (by kernel_rfl))
 f322:=Tryz.func363.trans (congrArg some (by kernel_rfl))
 f337:=Tryz.func367.trans (congrArg some (by kernel_rfl))
 f338:=Tryz.func368.trans (congrArg some (by kernel_rfl))
 t0:=underlying0
 a0:=isAgg0
 z0:=sizeOf0
 v0:=zeroValue0
 t2:=underlying2
 a2:=isAgg2
 z2:=sizeOf2
 v2:=zeroValue2
 t3:=underlying3
 a3:=isAgg3
 z3:=sizeOf3
 v3:=zeroValue3
 t4:=underlying4
 a4:=isAgg4
 z4:=sizeOf4
 v4:=zeroValue4
 t5:=underlying5
 a5:=isAgg5
 z5:=sizeOf5
 v5:=zeroValue5
 t9:=underlying9
 a9:=isAgg9
 z9:=sizeOf9
 v9:=zeroValue9
 t20:=underlying20
 a20:=isAgg20
 z20:=sizeOf20
 v20:=zeroValue20
 t21:=underlying21
 a21:=isAgg21
 z21:=sizeOf21
 v21:=zeroValue21
 t37:=underlying26
 a37:=isAgg26
 z37:=sizeOf26
 v37:=zeroValue26
 t46:=underlying304
 a46:=isAgg304
 z46:=sizeOf304
 v46:=zeroValue304
 t51:=underlying346
 a51:=isAgg346
 z51:=sizeOf346
 v51:=zeroValue346
 t53:=underlying350
 a53:=isAgg350
 z53:=sizeOf350
 v53:=zeroValue350
 t75:=underlying175
 a75:=isAgg175
 z75:=sizeOf175
 v75:=zeroValue175
 t76:=underlying176
 a76:=isAgg176
 z76:=sizeOf176
 v76:=zeroValue176
 t85:=underlying287
 a85:=isAgg287
 z85:=sizeOf287
 v85:=zeroValue287
 t127:=underlying256
 a127:=isAgg256
 z127:=sizeOf256
 v127:=zeroValue256
 t143:=underlying417
 a143:=isAgg417
 z143:=sizeOf417
 v143:=zeroValue417
 t145:=underlying419
 a145:=isAgg419
 z145:=sizeOf419
 v145:=zeroValue419
 t167:=underlying340
 a167:=isAgg340
 z167:=sizeOf340
 v167:=zeroValue340
 t168:=underlying341
 a168:=isAgg341
 z168:=sizeOf341
 v168:=zeroValue341
 t171:=underlying349
 a171:=isAgg349
 z171:=sizeOf349
 v171:=zeroValue349
 t173:=underlying353
 a173:=isAgg353
 z173:=sizeOf353
 v173:=zeroValue353
 t175:=underlying385
 a175:=isAgg385
 z175:=sizeOf385
 v175:=zeroValue385
 t210:=underlying391
 a210:=isAgg391
 z210:=sizeOf391
 v210:=zeroValue391
 t212:=underlying397
 a212:=isAgg397
 z212:=sizeOf397
 v212:=zeroValue397
 t213:=underlying398
 a213:=isAgg398
 z213:=sizeOf398
 t232:=underlying436
 a232:=isAgg436
 z232:=sizeOf436
 v232:=zeroValue436
 t233:=underlying437
 a233:=isAgg437
 z233:=sizeOf437
 v233:=zeroValue437
 g15:=by kernel_rfl
 g16:=by kernel_rfl
 g17:=by kernel_rfl
 g18:=by kernel_rfl
 g19:=by kernel_rfl
 t80:=underlying180
 a80:=isAgg180
 z80:=sizeOf180
 v80:=zeroValue180
 i0:=by kernel_rfl
 i2:=by kernel_rfl
 i3:=by kernel_rfl
 i4:=by kernel_rfl
 i5:=by kernel_rfl
 i9:=by kernel_rfl
 i20:=by kernel_rfl
 i21:=by kernel_rfl
 i37:=by kernel_rfl
 i46:=by kernel_rfl
 i51:=by kernel_rfl
 i53:=by kernel_rfl
 i75:=by kernel_rfl
 i76:=by kernel_rfl
 i80:=by kernel_rfl
 i85:=by kernel_rfl
 i127:=by kernel_rfl
 i143:=by kernel_rfl
 i145:=by kernel_rfl
 i167:=by kernel_rfl
 i168:=by kernel_rfl
 i171:=by kernel_rfl
 i173:=by kernel_rfl
 i175:=by kernel_rfl
 i210:=by kernel_rfl
 i212:=by kernel_rfl
 i232:=by kernel_rfl
 i233:=by kernel_rfl
 m15:=by kernel_rfl
 m16:=by kernel_rfl
 m17:=by kernel_rfl
 m18:=by kernel_rfl
 m19:=by kernel_rfl
 c0:=by kernel_rfl
 c2:=by kernel_rfl
 c3:=by kernel_rfl
 c4:=by kernel_rfl
 c5:=by kernel_rfl
 c9:=by kernel_rfl
 c20:=by kernel_rfl
 c21:=by kernel_rfl
 c37:=by kernel_rfl
 c46:=by kernel_rfl
 c51:=by kernel_rfl
 c53:=by kernel_rfl
 c75:=by kernel_rfl
 c76:=by kernel_rfl
 c80:=by kernel_rfl
 c85:=by kernel_rfl
 c127:=by kernel_rfl
 c143:=by kernel_rfl
 c145:=by kernel_rfl
 c167:=by kernel_rfl
 c168:=by kernel_rfl
 c171:=by kernel_rfl
 c173:=by kernel_rfl
 c175:=by kernel_rfl
 c210:=by kernel_rfl
 c212:=by kernel_rfl
 c213:=by kernel_rfl
 c232:=by kernel_rfl
 c233:=by kernel_rfl }
open Go.RowKit in
theorem Tryz.strconv_Atoi_ok(s:ByteArray)(a:s.size<=9223372036854775806)(v:Int)(h:Lib.atoiAll s.data.toList=.ok v)(w:World):Calls prog 170 #[.string s] w λe w'=>e=.returned (.tuple #[.int .i64 v,.nilIface])/\(w'=w \/ ∃ t,w'=Lib.bytesWorld w 5 t):=Any.strconv_Atoi_ok Tryz.laysC172 s a v h w
end Go.Proofs
namespace Go.Proofs.YthghjlinhokimaaGreatDoor
open Go.ChangeShapes Go.WideShapes Go.ChangeAt Go.RowKit Go.Proofs.Tryz
/-! ### sounds -/
theorem zjz{s:Sd}(h:s.fit)(n:Nat):((ku s n).length:Int)=(if s.w<n then (n-s.w-1)/16+1 else 0)/\(s.ticks n).w=(if (n:Int)<=s.w then s.w-n else 15-(n-s.w-1)%16):=by
 have d:=h.w;induction n with
 | zero=>simp[ku,Sd.ticks];omega
 | succ n c =>
  obtain⟨b,i2⟩:=c;have e:=(Sd.ticks_fit h n).w;simp only[ku,aC,Sd.ticks,Sd.tick];by_cases a:(s.ticks n).w=0
  ·have:(one (s.ticks n)).length=1:=by unfold one;rw[Q a];rfl
   rw[this,Q a];rw[a] at i2;constructor
   ·split at i2 <;> split at b <;> split <;> omega
   ·split at i2 <;> split <;> omega
  ·have:(one (s.ticks n)).length=0:=by unfold one;rw[G a];rfl
   rw[this,G a];constructor
   ·split at i2 <;> split at b <;> split <;> omega
   ·split at i2 <;> split <;> omega
theorem oM:aM.isSl:=λj a=>by rcases five a with rfl|rfl|rfl|rfl|rfl <;> exact⟨_,_,_,U⟩
/-! ### what no processor touches: where the beam is, when the next sample comes -/
/-! ### how many samples -/
theorem zuf(s s':Sd)(h:s.w=s'.w):(if s.w=0 then ku s 1 else []).length=(one s').length:=by
 unfold one;rw[h];split
 ·rename_i a
  show ([]++one s).length=_;unfold one;rw[Q (h.trans a)];rfl
 ·rfl
theorem zfQ(c:Cs)(hb:BOk c.s.M.b.l c.s.M.b.a c.s.M.b.f)(d:c.s.M.b.f<=19000):∀ j:Nat,j<=20000->(c.clocks j).sm.length=c.sm.length+(ku c.s.M.s j).length
 | 0,_=>by simp[Cs.clocks,ku]
 | j+1,m=>by
  have g:=zfQ c hb d j (by omega);have h:=vh c hb d j (by omega);obtain⟨k,i⟩:∃ k,k=c.clocks j:=⟨_,U⟩
  have e:c.clocks (j+1)=k.clock:=by rw[i];rfl
  rw[<- i] at g h;rw[e];show (k.sm++(k.s.M.pressed k.co).sample).length=_;have h1:((k.s.M.pressed k.co).sample).length=(one (c.s.M.s.ticks j)).length:=zuf _ _ ((zbL k.co k.s.M).w.trans h.w);rw[aC,g,h1];simp only[ku,aC];omega
/-! ### which lines -/
def iy(l a f:Int)(j:Nat):Option (Int × Int):=if i6 l a j=0/\jI l a j<8 then some (j3 l a f j,jI l a j) else none
def dR(l a f:Int):Nat->List (Int × Int)
 | 0=>[]
 | j+1=>dR l a f j++(iy l a f j).toList
theorem zfR(c:Cs)(hb:BOk c.s.M.b.l c.s.M.b.a c.s.M.b.f)(g:c.s.M.b.f<=19000)(h:c.ln=[]):∀ j:Nat,j<=20000->(c.clocks j).ln.map (λx=>(x.f,x.l))=dR c.s.M.b.l c.s.M.b.a c.s.M.b.f j
 | 0,_=>by simp[Cs.clocks,dR,h]
 | j+1,n=>by
  have i:=zfR c hb g h j (by omega);have d:=vh c hb g j (by omega);obtain⟨k,m⟩:∃ k,k=c.clocks j:=⟨_,U⟩
  have e:c.clocks (j+1)=k.clock:=by rw[m];rfl
  rw[<- m] at i d;rw[e];show (k.ln++(k.s.M.pressed k.co).line).map _=_;have hp:=zbL k.co k.s.M;have e1:=hp.l.trans d.l;have e2:=hp.a.trans d.a;have e3:=hp.f.trans d.f;rw[fM,i];simp only[dR];congr 1;unfold Mach.line iy;rw[e1,e2,e3];split <;> rfl
/-! ### who is held, and waits -/
section
variable {l a f : Int}
theorem zr1{p q:Nat}(h:p<=q)(b:∀ j:Nat,p<=j->j<q->i6 l a j≠0):dR l a f q=dR l a f p:=by
 induction q with
 | zero=>have:p=0:=by omega
         rw[this]
 | succ q c =>
  by_cases d:p=q+1
  ·rw[d]
  ·show dR l a f q++(iy l a f q).toList=_
   have h1:iy l a f q=none:=by
    unfold iy;rw[G (λe=>b q (by omega) (by omega) e.1)]
   rw[h1,c (by omega) (λj h1 h2=>b j h1 (by omega))];simp
structure Beg (l a : Int) (k : Nat) : Prop where
 z:i6 l a k=0
 pos:0<=l*64+a
theorem zun{k:Nat}(h:Beg l a k):Beg l a (k+64)/\dR l a f (k+64)=dR l a f k++(iy l a f k).toList:=by
 have b:=h.z;have h1:=h.pos;unfold i6 at b;refine⟨⟨by unfold i6;omega,h1⟩,?_⟩;rw[zr1 (p:=k+1) (by omega) (λj d c=>by unfold i6;omega)];rfl
end
theorem zuo(a0 a1 a2 a3 a4 a5 h j k a9 a b c e f g:Int)(d:Nat)(w:World):(Op.equalIn (d+2) 66 (.agg #[.int .u8 a0,.int .u8 a1,.int .u8 a2,.int .u8 a3,.int .u8 a4,.int .u8 a5,.int .u8 h,.int .u8 j,.int .u8 k,.int .u8 a9,.int .u8 a,.int .u8 b,.int .u8 c,.int .u8 e,.int .u8 f,.int .u8 g]) (.agg #[.int .u8 a0,.int .u8 a1,.int .u8 a2,.int .u8 a3,.int .u8 a4,.int .u8 a5,.int .u8 h,.int .u8 j,.int .u8 k,.int .u8 a9,.int .u8 a,.int .u8 b,.int .u8 c,.int .u8 e,.int .u8 f,.int .u8 g])).run prog w=.ok true w:=by
 have u3:=underlying5;have x3:=isAgg5;have z3:=sizeOf5;have l:Tryz.prog.cellsOf 5=1:=by kernel_rfl
 have m:(Tryz.prog.info? 5).isSome=true:=by kernel_rfl
 obtain⟨i,hi⟩:=cL.1 m;rw[dT w (d+1) _ _ underlying66 hi,l];simp only[List.range,List.range.loop,Op.eqItems];go_simp
theorem zmc(f l:Int)(a0 a1 a2 a3 a4 a5 h i j a9 a b c d e g:Int)(w:World):(binOp .eql 68 (.agg #[.int .i64 f,.int .i64 l,.int .u8 a0,.int .u8 a1,.int .u8 a2,.int .u8 a3,.int .u8 a4,.int .u8 a5,.int .u8 h,.int .u8 i,.int .u8 j,.int .u8 a9,.int .u8 a,.int .u8 b,.int .u8 c,.int .u8 d,.int .u8 e,.int .u8 g]) (.agg #[.int .i64 f,.int .i64 l,.int .u8 a0,.int .u8 a1,.int .u8 a2,.int .u8 a3,.int .u8 a4,.int .u8 a5,.int .u8 h,.int .u8 i,.int .u8 j,.int .u8 a9,.int .u8 a,.int .u8 b,.int .u8 c,.int .u8 d,.int .u8 e,.int .u8 g])).run prog w=.ok (.bool true) w:=by
 have u3:=underlying3;have x3:=isAgg3;have z3:=sizeOf3;have m:=isAgg66;have z5:=sizeOf66;have n:=zuo a0 a1 a2 a3 a4 a5 h i j a9 a b c d e g 9997;have k:Tryz.prog.underlying 68=some (.struct (Tryz.prog.fieldsOf 68)):=by kernel_rfl
 have hp:Tryz.prog.stoodInHeld 68=false:=by kernel_rfl
 rw[cn,show (10000:Nat)=9999+1 from U,cO w 9999 68 _ _ k hp];simp only[Program.fieldsOf,underlying68];go_simp
theorem zmd(c a v:Int)(w:World):(binOp .eql 104 (.agg #[.int .i64 c,.int .i64 a,.int .u8 v]) (.agg #[.int .i64 c,.int .i64 a,.int .u8 v])).run prog w=.ok (.bool true) w:=by
 have u3:=underlying3;have x3:=isAgg3;have z3:=sizeOf3;have d:=underlying5;have e:=isAgg5;have z5:=sizeOf5;have b:Tryz.prog.underlying 104=some (.struct (Tryz.prog.fieldsOf 104)):=by kernel_rfl
 have hp:Tryz.prog.stoodInHeld 104=false:=by kernel_rfl
 rw[cn,show (10000:Nat)=9999+1 from U,cO w 9999 104 _ _ b hp];simp only[Program.fieldsOf,underlying104];go_simp
def kK(x:Lin):List Value:=.int .i64 x.f :: .int .i64 x.l::bf x.px
def kL(x:Wt):List Value:=[.int .i64 x.c,.int .i64 x.a,.int .u8 x.v]
theorem zpk(x:Lin)(w:World):(binOp .neq 68 (.agg (kK x).toArray) (.agg (kK x).toArray)).run prog w=.ok (.bool false) w:=zfS (zmc x.f x.l (x.px 0) (x.px 1) (x.px 2) (x.px 3) (x.px 4) (x.px 5) (x.px 6) (x.px 7) (x.px 8) (x.px 9) (x.px 10) (x.px 11) (x.px 12) (x.px 13) (x.px 14) (x.px 15) w)
theorem zme(x:Wt)(w:World):(binOp .neq 104 (.agg (kL x).toArray) (.agg (kL x).toArray)).run prog w=.ok (.bool false) w:=zfS (zmd x.c x.a x.v w)
theorem zmf:∀(l:List Lin) (i:Nat) (x:Lin),l[i]?=some x->∀(j:Nat) (v:Value),(kK x)[j]?=some v->(jM l)[i*18+j]?=some v
 | [],i,x,h=>by simp at h
 | y::l,0,x,h=>λj v a=>by
  simp only[aY,aP] at h;subst h;rw[fl,aN];show (kK y++jM l)[j]?=_;rw[aR (aA.1 a).1];exact a
 | y::l,i+1,x,h=>λj v a=>by
  rw[bi] at h;have:=zmf l i x h j v a;show (kK y++jM l)[(i+1)*18+j]?=_;have b:(kK y).length=18:=by simp[kK,lh]
  rw[aO (by rw[b];omega),b,show (i+1)*18+j-18=i*18+j by omega];exact this
theorem zmg:∀(l:List Wt) (i:Nat) (x:Wt),l[i]?=some x->∀(j:Nat) (v:Value),(kL x)[j]?=some v->(kv l)[i*3+j]?=some v
 | [],i,x,h=>by simp at h
 | y::l,0,x,h=>λj v a=>by
  simp only[aY,aP] at h;subst h;rw[fl,aN];show (kL y++kv l)[j]?=_;rw[aR (aA.1 a).1];exact a
 | y::l,i+1,x,h=>λj v a=>by
  rw[bi] at h;have:=zmg l i x h j v a;show (kL y++kv l)[(i+1)*3+j]?=_;rw[aO (by simp[kL];omega),show (kL y).length=3 from U,show (i+1)*3+j-3=i*3+j by omega];exact this
theorem znL:(Tryz.prog.info? 68).map (·.size)=some 18:=by kernel_rfl
theorem znM:(Tryz.prog.info? 104).map (·.size)=some 3:=by kernel_rfl
theorem Lk.sameLn(f v2:Value)(l:List Lin)(w:World)(h1:iJ w f l.length 18 (jM l))(h2:iJ w v2 l.length 18 (jM l))(t:l.length<=1000000):Calls prog 39 #[f,v2] w λe w'=>e=.returned (.bool true)/\Below w.heap.size w w':=by
 obtain⟨a1,u,e1⟩:=h1.len;obtain⟨a2,v,e2⟩:=h2.len;subst e1 e2;have m:=hid h1;have n:=hid h2;clear h1 h2;go_enter func39,ntmps39;go_wp2;go_loopw [13] (λi wr=>∃ j:Nat,j<=l.length/\i=.int .i64 j/\Below w.heap.size w wr) (λi _=>l.length-(intOf i).toNat)
 case atStart=>exact⟨0,aU _,U,J w⟩
 case round =>
  obtain⟨j,y,rfl,hb⟩:=hrel;have g:=hid hb;by_cases b:j<l.length
  ·have h:(j:Int)<l.length:=by omega
   have o:(0:Int)<=j:=by omega
   have p:(j:Int)<1000000:=by omega
   obtain⟨x,d⟩:∃ x,l[j]?=some x:=⟨_,au b⟩
   obtain⟨g1,o1,c1,q1,z,r1⟩:=(m.out.kept hb).range b (zmf l j x d);obtain⟨k,o2,c2,q,z2,r2⟩:=(n.out.kept hb).range b (zmf l j x d);cases q1;cases q;have r:=zpk x;clear hb d;go_upto_region 6 with fail
   refine wp_region_held_drew (S:=λw'=>w'.rangeAt g1 (o1+j*18) (kK x)/\w'.rangeAt k (o2+j*18) (kK x)) (by kernel_rfl) ⟨r1,r2⟩ ?_;intro a;refine ee 0 ⟨some 16,_,_,_,_,none⟩ a ?_;simp only[Act.put,xA,xB,xC];refine ee 1 ⟨some 17,_,_,_,_,none⟩ a ?_;simp only[Act.put,xA,xB,xC];refine ee 2 ⟨some 18,_,_,_,_,none⟩ a ?_;simp only[Act.put,xA,xB,xC];refine iq 3 (.agg (kK x).toArray) U (λw' c=>kt 68 _ U g1 (o1+j*18) U (kK x) _ c.1 underlying68 U znL) a ?_;refine ee 4 ⟨some 20,_,_,_,_,none⟩ a ?_;simp only[Act.put,xA,xB,xC];refine ee 5 ⟨some 21,_,_,_,_,none⟩ a ?_;simp only[Act.put,xA,xB,xC];refine ee 6 ⟨some 22,_,_,_,_,none⟩ a ?_;simp only[Act.put,xA,xB,xC];refine iq 7 (.agg (kK x).toArray) U (λw' c=>kt 68 _ U k (o2+j*18) U (kK x) _ c.2 underlying68 U znL) a ?_;refine ee 8 ⟨some 24,_,_,_,_,none⟩ a ?_;simp only[Act.put,xA,xB,xC];refine wpAnyH_done (by kernel_rfl) ?_ _;clear a r1 r2;go_wp2;exact⟨⟨j+1,by omega,by simp,g.out.drew⟩,by simp[intOf];omega⟩
  ·have s:¬ (j:Int)<l.length:=by omega
   clear hb;go_wp2;go_ret;exact⟨U,g.out⟩
theorem Lk.sameWr(f v2:Value)(l:List Wt)(w:World)(h1:iJ w f l.length 3 (kv l))(h2:iJ w v2 l.length 3 (kv l))(t:l.length<=1000000):Calls prog 40 #[f,v2] w λe w'=>e=.returned (.bool true)/\Below w.heap.size w w':=by
 obtain⟨a1,u,e1⟩:=h1.len;obtain⟨a2,v,e2⟩:=h2.len;subst e1 e2;have m:=hid h1;have n:=hid h2;clear h1 h2;go_enter func40,ntmps40;go_wp2;go_loopw [13] (λi wr=>∃ j:Nat,j<=l.length/\i=.int .i64 j/\Below w.heap.size w wr) (λi _=>l.length-(intOf i).toNat)
 case atStart=>exact⟨0,aU _,U,J w⟩
 case round =>
  obtain⟨j,y,rfl,hb⟩:=hrel;have g:=hid hb;by_cases b:j<l.length
  ·have h:(j:Int)<l.length:=by omega
   have o:(0:Int)<=j:=by omega
   have p:(j:Int)<1000000:=by omega
   obtain⟨x,d⟩:∃ x,l[j]?=some x:=⟨_,au b⟩
   obtain⟨g1,o1,c1,q1,z,r1⟩:=(m.out.kept hb).range b (zmg l j x d);obtain⟨k,o2,c2,q,z2,r2⟩:=(n.out.kept hb).range b (zmg l j x d);cases q1;cases q;have r:=zme x;clear hb d;go_upto_region 6 with fail
   refine wp_region_held_drew (S:=λw'=>w'.rangeAt g1 (o1+j*3) (kL x)/\w'.rangeAt k (o2+j*3) (kL x)) (by kernel_rfl) ⟨r1,r2⟩ ?_;intro a;refine ee 0 ⟨some 16,_,_,_,_,none⟩ a ?_;simp only[Act.put,xA,xB,xC];refine ee 1 ⟨some 17,_,_,_,_,none⟩ a ?_;simp only[Act.put,xA,xB,xC];refine ee 2 ⟨some 18,_,_,_,_,none⟩ a ?_;simp only[Act.put,xA,xB,xC];refine iq 3 (.agg (kL x).toArray) U (λw' c=>kt 104 _ U g1 (o1+j*3) U (kL x) _ c.1 underlying104 U znM) a ?_;refine ee 4 ⟨some 20,_,_,_,_,none⟩ a ?_;simp only[Act.put,xA,xB,xC];refine ee 5 ⟨some 21,_,_,_,_,none⟩ a ?_;simp only[Act.put,xA,xB,xC];refine ee 6 ⟨some 22,_,_,_,_,none⟩ a ?_;simp only[Act.put,xA,xB,xC];refine iq 7 (.agg (kL x).toArray) U (λw' c=>kt 104 _ U k (o2+j*3) U (kL x) _ c.2 underlying104 U znM) a ?_;refine ee 8 ⟨some 24,_,_,_,_,none⟩ a ?_;simp only[Act.put,xA,xB,xC];refine wpAnyH_done (by kernel_rfl) ?_ _;clear a r1 r2;go_wp2;exact⟨⟨j+1,by omega,by simp,g.out.drew⟩,by simp[intOf];omega⟩
  ·have s:¬ (j:Int)<l.length:=by omega
   clear hb;go_wp2;go_ret;exact⟨U,g.out⟩
structure ShAt (w : World) (v1 v2 v3 : Value) (ln : List Lin) (sm : List UInt8) (ws : List Wt) : Prop where
 ln:iJ w v1 ln.length 18 (jM ln)
 sm:sliceAt w v2 sm
 ws:iJ w v3 ws.length 3 (kv ws)
theorem ShAt.kept{w w1:World}{a v2 v3:Value}{ln:List Lin}{sm:List UInt8}{ws:List Wt}(h:ShAt w a v2 v3 ln sm ws)(hb:Below w.heap.size w w1):ShAt w1 a v2 v3 ln sm ws:=⟨h.ln.kept hb,h.sm.kept hb,h.ws.kept hb⟩
theorem Lk.sameShown(i v2 v3 u1 u2 u3:Value)(ln:List Lin)(sm:List UInt8)(ws:List Wt)(w:World)(h:ShAt w i v2 v3 ln sm ws)(k:ShAt w u1 u2 u3 ln sm ws)(h1:ln.length<=1000000)(h3:ws.length<=1000000):Calls prog 14 #[.agg #[i,v2,v3],.agg #[u1,u2,u3]] w λe w'=>e=.returned (.bool true)/\Below w.heap.size w w':=by
 obtain⟨a1,j,e1⟩:=h.ln.len;obtain⟨a2,l,e2⟩:=oJ h.sm;obtain⟨a3,m,e3⟩:=h.ws.len;obtain⟨b1,m1,f1⟩:=k.ln.len;obtain⟨b2,n,f2⟩:=oJ k.sm;obtain⟨b3,o,f3⟩:=k.ws.len;subst e1 e2 e3 f1 f2 f3;have H:=hid h;have K:=hid k;have c:=hid h1;have d:=hid h3;clear h k h1 h3;go_enter func14,ntmps14;go_wp2_with (first
  | (go_at_call 39;refine(Lk.sameLn _ _ ln _ (H.out.kept (stA (stA (J w) _) _)).ln (K.out.kept (stA (stA (J w) _) _)).ln c.out).mono ?_;rintro e w1 ⟨rfl,b⟩;have a:=hid (bn (stA (stA (J w) (.cells #[.slice a1 ln.length j,.slice a2 sm.length l,.slice a3 ws.length m] 47)) (.cells #[.slice b1 ln.length m1,.slice b2 sm.length n,.slice b3 ws.length o] 47)) b);obtain⟨p,q⟩:=bQ b;have r:w.heap.size+1<w1.heap.size:=by have:=b.size;simp at this;omega)
  | (go_at_call 38;refine(zjB _ _ sm sm _ (H.out.kept a.out).sm (K.out.kept a.out).sm).mono ?_;rw[kQ];rintro e w2 ⟨rfl,rfl⟩)
  | (go_at_call 40;refine(Lk.sameWr _ _ ws _ (H.out.kept a.out).ws (K.out.kept a.out).ws d.out).mono ?_;rintro e s ⟨rfl,f⟩;have g:=hid (bn a.out f)))
 go_ret;exact⟨U,g.out⟩
theorem zuD(l1 l2:List UInt8)(h:¬ (l1.length<=1024/\l2.length<=1024)):(b9 l1 l2).chk=2:=by
 unfold Mach.chk;exact G h
theorem zuE(l1 l2:List UInt8)(h1:l1.length<=9223372036854775807)(h2:l2.length<=9223372036854775807):∀ j,j<5->((b9 l1 l2).byt j).length<=9223372036854775807:=λj a=>by
 rcases five a with rfl|rfl|rfl|rfl|rfl
 ·exact h1
 ·exact h2
 ·show (List.replicate 128 (0:UInt8)).length<=_;rw[eU];omega
 ·show (List.replicate 64 (0:UInt8)).length<=_;rw[eU];omega
 ·show (List.replicate 256 (0:UInt8)).length<=_;rw[eU];omega
theorem ta{Y:World}{b:Nat}(h:Bx Y b (D aE aM)):Bx (Y.setCells b 0 (D aE aM)) b (D aE aM):=by
 have a:=h.puts 0 (D aE aM) (by omega);rw[jJ _ _ U] at a;exact a
theorem zpD(l1 l2:List UInt8)(E v2:Value)(w:World)(h1:sliceAt w E l1)(h2:sliceAt w v2 l2)(z:l1.length<=9223372036854775807)(B:l2.length<=9223372036854775807)(hc:¬ (l1.length<=1024/\l2.length<=1024)):Calls prog 37 #[E,v2] w λe w'=>e=.returned (.tuple #[.agg (D aE aM).toArray,.int .i64 2])/\Below w.heap.size w w':=by
 obtain⟨a1,c1,e1⟩:=oJ h1;obtain⟨a2,c2,e2⟩:=oJ h2;subst e1 e2;have t:=hid h1;have u:=hid h2;have x:=hid (Bx.new w (D aE aM) 41 (b:=w.heap.size) U);have m:=hid (zuD l1 l2 hc);have y:=hid (zuE l1 l2 z B);clear h1 h2 z B hc;go_enter func37,ntmps37;go_wp2;refine wp_region_held_drew (S:=λ_=>True) (by kernel_rfl) trivial ?_;intro _;refine A 0 trivial ?_;refine A 1 trivial ?_;refine wpAnyH_ready (rs:=[2,3,4]) (by kernel_rfl) (by simp) ?_;refine iG (op:=⟨some 11,_,_,_,_,none⟩) U U 26 _ _ U (.int .i64 128) (.int .i64 128) _ U U (iw _ (w.heap.size+1) (by simp)) trivial ?_ (iG (op:=⟨some 12,_,_,_,_,none⟩) U U 26 _ _ U (.int .i64 64) (.int .i64 64) _ U U (kj _ (w.heap.size+1) (by simp)) trivial ?_ (iG (op:=⟨some 13,_,_,_,_,none⟩) U U 26 _ _ U (.int .i64 256) (.int .i64 256) _ U U (nc _ (w.heap.size+1) (by simp)) trivial ?_ AllReadyH.nil));all_goals simp only[Act.put,xA,xB,xC]
 ·refine wpAnyH_ready (rs:=[3,4]) (by kernel_rfl) (by simp) ?_
  refine iG (op:=⟨some 12,_,_,_,_,none⟩) U U 26 _ _ U (.int .i64 64) (.int .i64 64) _ U U (kj _ (w.heap.size+1+1) (by simp)) trivial ?_ (iG (op:=⟨some 13,_,_,_,_,none⟩) U U 26 _ _ U (.int .i64 256) (.int .i64 256) _ U U (nc _ (w.heap.size+1+1) (by simp)) trivial ?_ AllReadyH.nil);all_goals simp only[Act.put,xA,xB,xC]
  ·refine wpAnyH_ready (rs:=[4]) (by kernel_rfl) (by simp) ?_
   refine iG (op:=⟨some 13,_,_,_,_,none⟩) U U 26 _ _ U (.int .i64 256) (.int .i64 256) _ U U (nc _ (w.heap.size+1+1+1) (by simp)) trivial ?_ AllReadyH.nil;simp only[Act.put,xA,xB,xC];refine ij (NF w l1 l2 ⟨.slice a1 l1.length c1,.slice a2 l2.length c2,.slice (some ⟨_,0,none⟩) 128 128,.slice (some ⟨_,0,none⟩) 64 64,.slice (some ⟨_,0,none⟩) 256 256⟩) (NF.of (b1:=w.heap.size+1) (b2:=w.heap.size+1+1) (b3:=w.heap.size+1+1+1) t.out u.out ?_ ?_ ?_ ?_ ?_) ?_
   ·repeat' (first|exact J _|refine cx ?_|refine stA ?_ _)
   ·repeat' (first|exact x.out|refine Bx.drew ?_|refine Bx.over ?_ _)
   ·repeat' (first|exact Bx.new _ (List.replicate 128 (.int .u8 0)) _ (by simp)|refine Bx.drew ?_|refine Bx.over ?_ _)
   ·repeat' (first|exact Bx.new _ (List.replicate 64 (.int .u8 0)) _ (by simp)|refine Bx.drew ?_|refine Bx.over ?_ _)
   ·repeat' (first|exact Bx.new _ (List.replicate 256 (.int .u8 0)) _ (by simp)|refine Bx.drew ?_|refine Bx.over ?_ _)
   intro Y q;have l:=hid q;clear q;refine iq 5 (.agg (D (b9 l1 l2) ⟨.slice a1 l1.length c1,.slice a2 l2.length c2,.slice (some ⟨w.heap.size+1,0,none⟩) 128 128,.slice (some ⟨w.heap.size+1+1,0,none⟩) 64 64,.slice (some ⟨w.heap.size+1+1+1,0,none⟩) 256 256⟩).toArray) U (λw' _=>mF 41 2 3 4 5 6 14 _ _ _ _ _ _ U _ _ _ _ _ _ _ U U U U U U (mD a1 a2 l1.length c1 l2.length c2 (w.heap.size+1) (w.heap.size+1+1) (w.heap.size+1+1+1) l1 l2 w')) trivial ?_;refine dQ 6 (λK r=>?_);go_simp;go_at_call 56
   refine(rr (b9 l1 l2) _ _ l.out.sl.lens y.out (by rw[m.out];decide)).mono ?_;rw[m.out];rintro e w1 ⟨rfl,a⟩;have d:=hid (bn l.out.low a);have f:=hid (l.out.res.kept a);clear a;try go_wp2_with fail
   refine eP r trivial (λ_=>?_);clear r K l;refine A 7 trivial ?_;refine A 8 trivial ?_;refine A 9 trivial ?_;refine A 10 trivial ?_;refine A 11 trivial ?_;refine wpAnyH_done (by kernel_rfl) ?_ _;refine Pl.cutE (λX=>Below w.heap.size w X/\Bx X w.heap.size (D aE aM)) ⟨d.out,f.out⟩ ?_;rintro X ⟨g,h⟩;have n:=hid g;have i:=hid h;clear g h d f;go_wp2_with (refine wpList_store_mid U 41 _ _ U w.heap.size 0 (D aE aM).toArray U U (i.out.there 0 75 (by rw[cy];omega)) bV (fG _ _ oM) ?_;refine Pl.cutL (λV=>Below w.heap.size w V/\Bx V w.heap.size (D aE aM)) ⟨Bl.puts n.out (ak _) _,ta i.out⟩ ?_;rintro V ⟨j,k⟩;have o:=hid j;have p:=hid k;clear j k)
   have s:=pD _ _ p.out.c;refine ao (v:=.tuple #[.agg (D aE aM).toArray,.int .i64 2]) ?_ U ⟨U,o.out⟩;simp only[results,results37];simp;show (Result.andThen (Sem.run prog (loadVar 41 ⟨w.heap.size,0,none⟩) V) _)=_;rw[s];rfl
  ·refine wpAnyH_ready (rs:=[3]) (by kernel_rfl) (by simp) ?_
   refine iG (op:=⟨some 12,_,_,_,_,none⟩) U U 26 _ _ U (.int .i64 64) (.int .i64 64) _ U U (kj _ (w.heap.size+1+1+1) (by simp)) trivial ?_ AllReadyH.nil;simp only[Act.put,xA,xB,xC];refine ij (NF w l1 l2 ⟨.slice a1 l1.length c1,.slice a2 l2.length c2,.slice (some ⟨_,0,none⟩) 128 128,.slice (some ⟨_,0,none⟩) 64 64,.slice (some ⟨_,0,none⟩) 256 256⟩) (NF.of (b1:=w.heap.size+1) (b2:=w.heap.size+1+1+1) (b3:=w.heap.size+1+1) t.out u.out ?_ ?_ ?_ ?_ ?_) ?_
   ·repeat' (first|exact J _|refine cx ?_|refine stA ?_ _)
   ·repeat' (first|exact x.out|refine Bx.drew ?_|refine Bx.over ?_ _)
   ·repeat' (first|exact Bx.new _ (List.replicate 128 (.int .u8 0)) _ (by simp)|refine Bx.drew ?_|refine Bx.over ?_ _)
   ·repeat' (first|exact Bx.new _ (List.replicate 64 (.int .u8 0)) _ (by simp)|refine Bx.drew ?_|refine Bx.over ?_ _)
   ·repeat' (first|exact Bx.new _ (List.replicate 256 (.int .u8 0)) _ (by simp)|refine Bx.drew ?_|refine Bx.over ?_ _)
   intro Y q;have l:=hid q;clear q;refine iq 5 (.agg (D (b9 l1 l2) ⟨.slice a1 l1.length c1,.slice a2 l2.length c2,.slice (some ⟨w.heap.size+1,0,none⟩) 128 128,.slice (some ⟨w.heap.size+1+1+1,0,none⟩) 64 64,.slice (some ⟨w.heap.size+1+1,0,none⟩) 256 256⟩).toArray) U (λw' _=>mF 41 2 3 4 5 6 14 _ _ _ _ _ _ U _ _ _ _ _ _ _ U U U U U U (mD a1 a2 l1.length c1 l2.length c2 (w.heap.size+1) (w.heap.size+1+1+1) (w.heap.size+1+1) l1 l2 w')) trivial ?_;refine dQ 6 (λK r=>?_);go_simp;go_at_call 56
   refine(rr (b9 l1 l2) _ _ l.out.sl.lens y.out (by rw[m.out];decide)).mono ?_;rw[m.out];rintro e w1 ⟨rfl,a⟩;have d:=hid (bn l.out.low a);have f:=hid (l.out.res.kept a);clear a;try go_wp2_with fail
   refine eP r trivial (λ_=>?_);clear r K l;refine A 7 trivial ?_;refine A 8 trivial ?_;refine A 9 trivial ?_;refine A 10 trivial ?_;refine A 11 trivial ?_;refine wpAnyH_done (by kernel_rfl) ?_ _;refine Pl.cutE (λX=>Below w.heap.size w X/\Bx X w.heap.size (D aE aM)) ⟨d.out,f.out⟩ ?_;rintro X ⟨g,h⟩;have n:=hid g;have i:=hid h;clear g h d f;go_wp2_with (refine wpList_store_mid U 41 _ _ U w.heap.size 0 (D aE aM).toArray U U (i.out.there 0 75 (by rw[cy];omega)) bV (fG _ _ oM) ?_;refine Pl.cutL (λV=>Below w.heap.size w V/\Bx V w.heap.size (D aE aM)) ⟨Bl.puts n.out (ak _) _,ta i.out⟩ ?_;rintro V ⟨j,k⟩;have o:=hid j;have p:=hid k;clear j k)
   have s:=pD _ _ p.out.c;refine ao (v:=.tuple #[.agg (D aE aM).toArray,.int .i64 2]) ?_ U ⟨U,o.out⟩;simp only[results,results37];simp;show (Result.andThen (Sem.run prog (loadVar 41 ⟨w.heap.size,0,none⟩) V) _)=_;rw[s];rfl
 ·refine wpAnyH_ready (rs:=[2,4]) (by kernel_rfl) (by simp) ?_
  refine iG (op:=⟨some 11,_,_,_,_,none⟩) U U 26 _ _ U (.int .i64 128) (.int .i64 128) _ U U (iw _ (w.heap.size+1+1) (by simp)) trivial ?_ (iG (op:=⟨some 13,_,_,_,_,none⟩) U U 26 _ _ U (.int .i64 256) (.int .i64 256) _ U U (nc _ (w.heap.size+1+1) (by simp)) trivial ?_ AllReadyH.nil);all_goals simp only[Act.put,xA,xB,xC]
  ·refine wpAnyH_ready (rs:=[4]) (by kernel_rfl) (by simp) ?_
   refine iG (op:=⟨some 13,_,_,_,_,none⟩) U U 26 _ _ U (.int .i64 256) (.int .i64 256) _ U U (nc _ (w.heap.size+1+1+1) (by simp)) trivial ?_ AllReadyH.nil;simp only[Act.put,xA,xB,xC];refine ij (NF w l1 l2 ⟨.slice a1 l1.length c1,.slice a2 l2.length c2,.slice (some ⟨_,0,none⟩) 128 128,.slice (some ⟨_,0,none⟩) 64 64,.slice (some ⟨_,0,none⟩) 256 256⟩) (NF.of (b1:=w.heap.size+1+1) (b2:=w.heap.size+1) (b3:=w.heap.size+1+1+1) t.out u.out ?_ ?_ ?_ ?_ ?_) ?_
   ·repeat' (first|exact J _|refine cx ?_|refine stA ?_ _)
   ·repeat' (first|exact x.out|refine Bx.drew ?_|refine Bx.over ?_ _)
   ·repeat' (first|exact Bx.new _ (List.replicate 128 (.int .u8 0)) _ (by simp)|refine Bx.drew ?_|refine Bx.over ?_ _)
   ·repeat' (first|exact Bx.new _ (List.replicate 64 (.int .u8 0)) _ (by simp)|refine Bx.drew ?_|refine Bx.over ?_ _)
   ·repeat' (first|exact Bx.new _ (List.replicate 256 (.int .u8 0)) _ (by simp)|refine Bx.drew ?_|refine Bx.over ?_ _)
   intro Y q;have l:=hid q;clear q;refine iq 5 (.agg (D (b9 l1 l2) ⟨.slice a1 l1.length c1,.slice a2 l2.length c2,.slice (some ⟨w.heap.size+1+1,0,none⟩) 128 128,.slice (some ⟨w.heap.size+1,0,none⟩) 64 64,.slice (some ⟨w.heap.size+1+1+1,0,none⟩) 256 256⟩).toArray) U (λw' _=>mF 41 2 3 4 5 6 14 _ _ _ _ _ _ U _ _ _ _ _ _ _ U U U U U U (mD a1 a2 l1.length c1 l2.length c2 (w.heap.size+1+1) (w.heap.size+1) (w.heap.size+1+1+1) l1 l2 w')) trivial ?_;refine dQ 6 (λK r=>?_);go_simp;go_at_call 56
   refine(rr (b9 l1 l2) _ _ l.out.sl.lens y.out (by rw[m.out];decide)).mono ?_;rw[m.out];rintro e w1 ⟨rfl,a⟩;have d:=hid (bn l.out.low a);have f:=hid (l.out.res.kept a);clear a;try go_wp2_with fail
   refine eP r trivial (λ_=>?_);clear r K l;refine A 7 trivial ?_;refine A 8 trivial ?_;refine A 9 trivial ?_;refine A 10 trivial ?_;refine A 11 trivial ?_;refine wpAnyH_done (by kernel_rfl) ?_ _;refine Pl.cutE (λX=>Below w.heap.size w X/\Bx X w.heap.size (D aE aM)) ⟨d.out,f.out⟩ ?_;rintro X ⟨g,h⟩;have n:=hid g;have i:=hid h;clear g h d f;go_wp2_with (refine wpList_store_mid U 41 _ _ U w.heap.size 0 (D aE aM).toArray U U (i.out.there 0 75 (by rw[cy];omega)) bV (fG _ _ oM) ?_;refine Pl.cutL (λV=>Below w.heap.size w V/\Bx V w.heap.size (D aE aM)) ⟨Bl.puts n.out (ak _) _,ta i.out⟩ ?_;rintro V ⟨j,k⟩;have o:=hid j;have p:=hid k;clear j k)
   have s:=pD _ _ p.out.c;refine ao (v:=.tuple #[.agg (D aE aM).toArray,.int .i64 2]) ?_ U ⟨U,o.out⟩;simp only[results,results37];simp;show (Result.andThen (Sem.run prog (loadVar 41 ⟨w.heap.size,0,none⟩) V) _)=_;rw[s];rfl
  ·refine wpAnyH_ready (rs:=[2]) (by kernel_rfl) (by simp) ?_
   refine iG (op:=⟨some 11,_,_,_,_,none⟩) U U 26 _ _ U (.int .i64 128) (.int .i64 128) _ U U (iw _ (w.heap.size+1+1+1) (by simp)) trivial ?_ AllReadyH.nil;simp only[Act.put,xA,xB,xC];refine ij (NF w l1 l2 ⟨.slice a1 l1.length c1,.slice a2 l2.length c2,.slice (some ⟨_,0,none⟩) 128 128,.slice (some ⟨_,0,none⟩) 64 64,.slice (some ⟨_,0,none⟩) 256 256⟩) (NF.of (b1:=w.heap.size+1+1+1) (b2:=w.heap.size+1) (b3:=w.heap.size+1+1) t.out u.out ?_ ?_ ?_ ?_ ?_) ?_
   ·repeat' (first|exact J _|refine cx ?_|refine stA ?_ _)
   ·repeat' (first|exact x.out|refine Bx.drew ?_|refine Bx.over ?_ _)
   ·repeat' (first|exact Bx.new _ (List.replicate 128 (.int .u8 0)) _ (by simp)|refine Bx.drew ?_|refine Bx.over ?_ _)
   ·repeat' (first|exact Bx.new _ (List.replicate 64 (.int .u8 0)) _ (by simp)|refine Bx.drew ?_|refine Bx.over ?_ _)
   ·repeat' (first|exact Bx.new _ (List.replicate 256 (.int .u8 0)) _ (by simp)|refine Bx.drew ?_|refine Bx.over ?_ _)
   intro Y q;have l:=hid q;clear q;refine iq 5 (.agg (D (b9 l1 l2) ⟨.slice a1 l1.length c1,.slice a2 l2.length c2,.slice (some ⟨w.heap.size+1+1+1,0,none⟩) 128 128,.slice (some ⟨w.heap.size+1,0,none⟩) 64 64,.slice (some ⟨w.heap.size+1+1,0,none⟩) 256 256⟩).toArray) U (λw' _=>mF 41 2 3 4 5 6 14 _ _ _ _ _ _ U _ _ _ _ _ _ _ U U U U U U (mD a1 a2 l1.length c1 l2.length c2 (w.heap.size+1+1+1) (w.heap.size+1) (w.heap.size+1+1) l1 l2 w')) trivial ?_;refine dQ 6 (λK r=>?_);go_simp;go_at_call 56
   refine(rr (b9 l1 l2) _ _ l.out.sl.lens y.out (by rw[m.out];decide)).mono ?_;rw[m.out];rintro e w1 ⟨rfl,a⟩;have d:=hid (bn l.out.low a);have f:=hid (l.out.res.kept a);clear a;try go_wp2_with fail
   refine eP r trivial (λ_=>?_);clear r K l;refine A 7 trivial ?_;refine A 8 trivial ?_;refine A 9 trivial ?_;refine A 10 trivial ?_;refine A 11 trivial ?_;refine wpAnyH_done (by kernel_rfl) ?_ _;refine Pl.cutE (λX=>Below w.heap.size w X/\Bx X w.heap.size (D aE aM)) ⟨d.out,f.out⟩ ?_;rintro X ⟨g,h⟩;have n:=hid g;have i:=hid h;clear g h d f;go_wp2_with (refine wpList_store_mid U 41 _ _ U w.heap.size 0 (D aE aM).toArray U U (i.out.there 0 75 (by rw[cy];omega)) bV (fG _ _ oM) ?_;refine Pl.cutL (λV=>Below w.heap.size w V/\Bx V w.heap.size (D aE aM)) ⟨Bl.puts n.out (ak _) _,ta i.out⟩ ?_;rintro V ⟨j,k⟩;have o:=hid j;have p:=hid k;clear j k)
   have s:=pD _ _ p.out.c;refine ao (v:=.tuple #[.agg (D aE aM).toArray,.int .i64 2]) ?_ U ⟨U,o.out⟩;simp only[results,results37];simp;show (Result.andThen (Sem.run prog (loadVar 41 ⟨w.heap.size,0,none⟩) V) _)=_;rw[s];rfl
 ·refine wpAnyH_ready (rs:=[2,3]) (by kernel_rfl) (by simp) ?_
  refine iG (op:=⟨some 11,_,_,_,_,none⟩) U U 26 _ _ U (.int .i64 128) (.int .i64 128) _ U U (iw _ (w.heap.size+1+1) (by simp)) trivial ?_ (iG (op:=⟨some 12,_,_,_,_,none⟩) U U 26 _ _ U (.int .i64 64) (.int .i64 64) _ U U (kj _ (w.heap.size+1+1) (by simp)) trivial ?_ AllReadyH.nil);all_goals simp only[Act.put,xA,xB,xC]
  ·refine wpAnyH_ready (rs:=[3]) (by kernel_rfl) (by simp) ?_
   refine iG (op:=⟨some 12,_,_,_,_,none⟩) U U 26 _ _ U (.int .i64 64) (.int .i64 64) _ U U (kj _ (w.heap.size+1+1+1) (by simp)) trivial ?_ AllReadyH.nil;simp only[Act.put,xA,xB,xC];refine ij (NF w l1 l2 ⟨.slice a1 l1.length c1,.slice a2 l2.length c2,.slice (some ⟨_,0,none⟩) 128 128,.slice (some ⟨_,0,none⟩) 64 64,.slice (some ⟨_,0,none⟩) 256 256⟩) (NF.of (b1:=w.heap.size+1+1) (b2:=w.heap.size+1+1+1) (b3:=w.heap.size+1) t.out u.out ?_ ?_ ?_ ?_ ?_) ?_
   ·repeat' (first|exact J _|refine cx ?_|refine stA ?_ _)
   ·repeat' (first|exact x.out|refine Bx.drew ?_|refine Bx.over ?_ _)
   ·repeat' (first|exact Bx.new _ (List.replicate 128 (.int .u8 0)) _ (by simp)|refine Bx.drew ?_|refine Bx.over ?_ _)
   ·repeat' (first|exact Bx.new _ (List.replicate 64 (.int .u8 0)) _ (by simp)|refine Bx.drew ?_|refine Bx.over ?_ _)
   ·repeat' (first|exact Bx.new _ (List.replicate 256 (.int .u8 0)) _ (by simp)|refine Bx.drew ?_|refine Bx.over ?_ _)
   intro Y q;have l:=hid q;clear q;refine iq 5 (.agg (D (b9 l1 l2) ⟨.slice a1 l1.length c1,.slice a2 l2.length c2,.slice (some ⟨w.heap.size+1+1,0,none⟩) 128 128,.slice (some ⟨w.heap.size+1+1+1,0,none⟩) 64 64,.slice (some ⟨w.heap.size+1,0,none⟩) 256 256⟩).toArray) U (λw' _=>mF 41 2 3 4 5 6 14 _ _ _ _ _ _ U _ _ _ _ _ _ _ U U U U U U (mD a1 a2 l1.length c1 l2.length c2 (w.heap.size+1+1) (w.heap.size+1+1+1) (w.heap.size+1) l1 l2 w')) trivial ?_;refine dQ 6 (λK r=>?_);go_simp;go_at_call 56
   refine(rr (b9 l1 l2) _ _ l.out.sl.lens y.out (by rw[m.out];decide)).mono ?_;rw[m.out];rintro e w1 ⟨rfl,a⟩;have d:=hid (bn l.out.low a);have f:=hid (l.out.res.kept a);clear a;try go_wp2_with fail
   refine eP r trivial (λ_=>?_);clear r K l;refine A 7 trivial ?_;refine A 8 trivial ?_;refine A 9 trivial ?_;refine A 10 trivial ?_;refine A 11 trivial ?_;refine wpAnyH_done (by kernel_rfl) ?_ _;refine Pl.cutE (λX=>Below w.heap.size w X/\Bx X w.heap.size (D aE aM)) ⟨d.out,f.out⟩ ?_;rintro X ⟨g,h⟩;have n:=hid g;have i:=hid h;clear g h d f;go_wp2_with (refine wpList_store_mid U 41 _ _ U w.heap.size 0 (D aE aM).toArray U U (i.out.there 0 75 (by rw[cy];omega)) bV (fG _ _ oM) ?_;refine Pl.cutL (λV=>Below w.heap.size w V/\Bx V w.heap.size (D aE aM)) ⟨Bl.puts n.out (ak _) _,ta i.out⟩ ?_;rintro V ⟨j,k⟩;have o:=hid j;have p:=hid k;clear j k)
   have s:=pD _ _ p.out.c;refine ao (v:=.tuple #[.agg (D aE aM).toArray,.int .i64 2]) ?_ U ⟨U,o.out⟩;simp only[results,results37];simp;show (Result.andThen (Sem.run prog (loadVar 41 ⟨w.heap.size,0,none⟩) V) _)=_;rw[s];rfl
  ·refine wpAnyH_ready (rs:=[2]) (by kernel_rfl) (by simp) ?_
   refine iG (op:=⟨some 11,_,_,_,_,none⟩) U U 26 _ _ U (.int .i64 128) (.int .i64 128) _ U U (iw _ (w.heap.size+1+1+1) (by simp)) trivial ?_ AllReadyH.nil;simp only[Act.put,xA,xB,xC];refine ij (NF w l1 l2 ⟨.slice a1 l1.length c1,.slice a2 l2.length c2,.slice (some ⟨_,0,none⟩) 128 128,.slice (some ⟨_,0,none⟩) 64 64,.slice (some ⟨_,0,none⟩) 256 256⟩) (NF.of (b1:=w.heap.size+1+1+1) (b2:=w.heap.size+1+1) (b3:=w.heap.size+1) t.out u.out ?_ ?_ ?_ ?_ ?_) ?_
   ·repeat' (first|exact J _|refine cx ?_|refine stA ?_ _)
   ·repeat' (first|exact x.out|refine Bx.drew ?_|refine Bx.over ?_ _)
   ·repeat' (first|exact Bx.new _ (List.replicate 128 (.int .u8 0)) _ (by simp)|refine Bx.drew ?_|refine Bx.over ?_ _)
   ·repeat' (first|exact Bx.new _ (List.replicate 64 (.int .u8 0)) _ (by simp)|refine Bx.drew ?_|refine Bx.over ?_ _)
   ·repeat' (first|exact Bx.new _ (List.replicate 256 (.int .u8 0)) _ (by simp)|refine Bx.drew ?_|refine Bx.over ?_ _)
   intro Y q;have l:=hid q;clear q;refine iq 5 (.agg (D (b9 l1 l2) ⟨.slice a1 l1.length c1,.slice a2 l2.length c2,.slice (some ⟨w.heap.size+1+1+1,0,none⟩) 128 128,.slice (some ⟨w.heap.size+1+1,0,none⟩) 64 64,.slice (some ⟨w.heap.size+1,0,none⟩) 256 256⟩).toArray) U (λw' _=>mF 41 2 3 4 5 6 14 _ _ _ _ _ _ U _ _ _ _ _ _ _ U U U U U U (mD a1 a2 l1.length c1 l2.length c2 (w.heap.size+1+1+1) (w.heap.size+1+1) (w.heap.size+1) l1 l2 w')) trivial ?_;refine dQ 6 (λK r=>?_);go_simp;go_at_call 56
   refine(rr (b9 l1 l2) _ _ l.out.sl.lens y.out (by rw[m.out];decide)).mono ?_;rw[m.out];rintro e w1 ⟨rfl,a⟩;have d:=hid (bn l.out.low a);have f:=hid (l.out.res.kept a);clear a;try go_wp2_with fail
   refine eP r trivial (λ_=>?_);clear r K l;refine A 7 trivial ?_;refine A 8 trivial ?_;refine A 9 trivial ?_;refine A 10 trivial ?_;refine A 11 trivial ?_;refine wpAnyH_done (by kernel_rfl) ?_ _;refine Pl.cutE (λX=>Below w.heap.size w X/\Bx X w.heap.size (D aE aM)) ⟨d.out,f.out⟩ ?_;rintro X ⟨g,h⟩;have n:=hid g;have i:=hid h;clear g h d f;go_wp2_with (refine wpList_store_mid U 41 _ _ U w.heap.size 0 (D aE aM).toArray U U (i.out.there 0 75 (by rw[cy];omega)) bV (fG _ _ oM) ?_;refine Pl.cutL (λV=>Below w.heap.size w V/\Bx V w.heap.size (D aE aM)) ⟨Bl.puts n.out (ak _) _,ta i.out⟩ ?_;rintro V ⟨j,k⟩;have o:=hid j;have p:=hid k;clear j k)
   have s:=pD _ _ p.out.c;refine ao (v:=.tuple #[.agg (D aE aM).toArray,.int .i64 2]) ?_ U ⟨U,o.out⟩;simp only[results,results37];simp;show (Result.andThen (Sem.run prog (loadVar 41 ⟨w.heap.size,0,none⟩) V) _)=_;rw[s];rfl
structure R3 (w1 : World) (X : Mach) (S' : Sl) (L : List Value) (Y : World) : Prop where
 old:Below w1.heap.size w1 Y
 x:Bx Y w1.heap.size (D X S')
 s:Bx Y (w1.heap.size+1) L
section
variable {w1 Y Y' : World} {X : Mach} {S' : Sl} {L : List Value}
theorem R3.mk1(w1:World)(X:Mach)(S':Sl):R3 w1 X S' nil3 (((w1.alloc (.cells (D aE aM).toArray 41)).alloc (.cells #[.slice none 0 0,.slice none 0 0,.slice none 0 0] 47)).setCells w1.heap.size 0 (D X S')):=by
 have h1:=((Bx.new w1 (D aE aM) 41 (b:=w1.heap.size) U).over (.cells #[.slice none 0 0,.slice none 0 0,.slice none 0 0] 47)).puts 0 (D X S') (by rw[cy,cy];omega);rw[jJ _ _ (by rw[cy,cy])] at h1;exact⟨j4 (stA (stA (J w1) _) _) (ak _) _ _,h1,DW.bb (Bx.new (w1.alloc (.cells (D aE aM).toArray 41)) nil3 47 (b:=w1.heap.size+1) (by simp)) (by omega)⟩
theorem R3.put{x y z a b c:Value}(h:R3 w1 X S' [x,y,z] Y):R3 w1 X S' [a,b,c] (Y.setCells (w1.heap.size+1) 0 [a,b,c]):=by
 have h1:=h.s.puts 0 [a,b,c] (by simp);rw[jJ _ _ (by simp)] at h1;exact⟨j4 h.old (by omega) _ _,DW.bb h.x (by omega),h1⟩
theorem R3.kept(h:R3 w1 X S' L Y)(hb:Below Y.heap.size Y Y'):R3 w1 X S' L Y':=⟨bn h.old hb,h.x.kept hb,h.s.kept hb⟩
end
theorem R3.th1(w1:World):((w1.alloc (.cells (D aE aM).toArray 41)).alloc (.cells #[.slice none 0 0,.slice none 0 0,.slice none 0 0] 47)).there w1.heap.size 0 75:=((Bx.new w1 (D aE aM) 41 (b:=w1.heap.size) rfl).over _).there 0 75 (by rw[cy];omega)
end Go.Proofs.YthghjlinhokimaaGreatDoor
namespace Go.Proofs.YthghjlinhokimaaGreatDoor
open Go.ChangeShapes Go.WideShapes Go.ChangeAt Go.RowKit Go.Proofs.Tryz
theorem zsl(l a f:Int):∀ j:Nat,(dR l a f j).length<=j
 | 0=>ak _
 | j+1=>by
  show (dR l a f j++(iy l a f j).toList).length<=_;have:=zsl l a f j;have h1:(iy l a f j).toList.length<=1:=by cases iy l a f j <;> simp
  rw[aC];omega
structure Cs.counts (M : Mach) (k : Cs) (n : Nat) : Prop where
 ln:k.ln.map (λx=>(x.f,x.l))=dR M.b.l M.b.a M.b.f n
 sm:(k.sm.length:Int)=if M.s.w<n then (n-M.s.w-1)/16+1 else 0
 clock:k.s.M.clock=M.clock+n
theorem counts_of(M:Mach)(l:List Inp)(n:Nat)(d:M.fit)(hb:BOk M.b.l M.b.a M.b.f)(c:M.b.f<=19000)(e:n<=20000)(hc:(Cs.clocks ⟨⟨M,0,[]⟩,l,[],[]⟩ n).s.M.clock=M.clock+n):Cs.counts M (Cs.clocks ⟨⟨M,0,[]⟩,l,[],[]⟩ n) n:=by
 have h1:=zfR ⟨⟨M,0,[]⟩,l,[],[]⟩ hb c U n e;have h2:=zfQ ⟨⟨M,0,[]⟩,l,[],[]⟩ hb c n e;have h3:=(zjz (s:=M.s) { d.s with w:=d.w } n).1;refine⟨h1,?_,hc⟩;rw[h2,<- h3];simp
theorem znS(a:Cs):∀ j:Nat,(a.clocks j).s.M.clock=a.s.M.clock+j
 | 0=>by simp[Cs.clocks]
 | j+1=>by
  show (a.clocks j).now.s.M.clock+1=_;rw[rA,znS a j];push_cast;omega
section
variable {F : Gx} {W : World} {M : Mach} {tk : Tk} {gb mb : Nat}
theorem Gm.getN0s(h:Gd F W M tk)(c:Pb F W gb)(a:Int)(h1:0<=a)(h2:a<32768):Calls prog 87 #[.int .u16 a,pt gb 0,pt mb 0] W λe w'=>e=.returned (.int .u8 (M.lookM a))/\W=w':=by
 obtain⟨d,e1,_⟩:=c;have hp:cu a=false:=by unfold cu;exact aF (by omega)
 have b:=hid (zdB h a (by omega));rw[hp] at b;clear h hp;simp only[bK,dt] at b;go_enter func87,ntmps87;go_wp2_with (first
  | (go_at_call 88;refine(Gm.reg0 a _ h1 h2).mono ?_;rintro e w1 ⟨rfl,rfl⟩)
  | (go_at_call 89;refine b.out.mono ?_;rintro e w1 ⟨rfl,rfl⟩))
 go_ret;exact⟨U,U⟩
theorem Gm.wordM(h:Gd F W M tk)(a:Pb F W gb){hb lb:Nat}:Calls prog 86 #[memM mb hb lb gb,.int .u16 0] W λe w'=>e=.returned (.int .u16 (M.lookM 0*256+M.lookM 1))/\Below W.heap.size W w':=by
 have c:=nC M 0;have h1:=nC M 1;have q0:=hid (λo:Obj=>Gm.getN0s (mb:=mb) (h.over o) (a.kept (stA (J W) o)) 0 (by omega) (by omega));have q1:=hid (λo:Obj=>Gm.getN0s (mb:=mb) (h.over o) (a.kept (stA (J W) o)) 1 (by omega) (by omega));generalize M.lookM 0=d at *;generalize M.lookM 1=x1 at *;clear h a;go_enter func86,ntmps86;go_wp2_with (first
  | (go_at_call 87;refine(b.out _).mono ?_;rintro e w2 ⟨rfl,rfl⟩)
  | (go_at_call 87;refine(q0.out _).mono ?_;rintro e w1 ⟨rfl,rfl⟩;have b:=q1))
 go_ret;exact⟨U,stA (J W) _⟩
end
structure MainV (g n : Nat) (w : World) : Prop where
 z:n+4<w.heap.size
 a:w.cell? ⟨n,0,none⟩=some (pt g 0)
 b:w.cell? ⟨n+2,0,none⟩=some (pt g 0)
 c:w.cell? ⟨n+3,0,none⟩=some (cZ 92 #[])
 d:w.cell? ⟨n+4,0,none⟩=some (cZ 93 #[])
theorem zlY(g:Nat)(w:World):Calls prog 49 #[pt g 0] w λe w'=>e=.returned (memM (w.heap.size+2) (w.heap.size+3) (w.heap.size+4) w.heap.size)/\Below w.heap.size w w'/\MainV g w.heap.size w':=by
 go_enter func49,ntmps49;go_wp2;refine ao (v:=.agg _) (by simp[results,results49,go_sem]) U ⟨U,?_,?_⟩
 ·repeat (first|exact J _|refine stA ?_ _|refine eQ ?_ (by simp) _)
 ·exact⟨by simp,by simp[go_sem],by simp[go_sem],by simp[go_sem],by simp[go_sem]⟩
section
variable {F : Gx} {W : World} {M : Mach} {tk : Tk} {gb mb : Nat}
theorem MainV.pu{w1:World}(h:Gd F W M tk)(e:MainV F.g W.heap.size w1):Pu F w1 (W.heap.size+2) (W.heap.size+3) (W.heap.size+4) W.heap.size :=
 have f:=e.z
 ⟨⟨by omega,e.b,h.fresh (by omega)⟩,⟨by omega,e.a,h.fresh (ak _)⟩,⟨by omega,e.c,h.fresh (by omega)⟩,⟨e.z,e.d,h.fresh (by omega)⟩⟩
theorem zo2(h:Gd F W M tk)(j:Pb F W gb){hb lb:Nat}:Calls prog 48 #[memM mb hb lb gb] W λe w'=>e=.returned (.agg (gD (M.lookM 0*256+M.lookM 1)).toArray)/\Below W.heap.size W w':=by
 have l:=hid (λ(o o':Obj)=>Gm.wordM (mb:=mb) (hb:=hb) (lb:=lb) ((h.over o).over o') (j.kept (stA (stA (J W) o) o')));generalize M.lookM 0*256+M.lookM 1=x at *;clear h j;go_enter func48,ntmps48;go_wp2_with (first
  | (go_at_call 86;refine(l.out _ _).mono ?_;rintro e w1 ⟨rfl,a⟩;have k:=hid ((Bx.new (W.alloc _) (gD 0) 25 (b:=W.heap.size+1) (by simp)).kept a);have f:=hid (bn (stA (stA (J W) _) _) a);clear a)
  | (refine wpList_store_mid U 25 _ _ U (W.heap.size+1) 0 _ U U (Bx.there k.out 0 15 (by simp[gD])) nU (sC _) ?_
     refine Pl.cutL (λY=>Below W.heap.size W Y/\Bx Y (W.heap.size+1) (gD x)) ⟨Bl.puts f.out (by omega) _,k.out.puts 0 (gD x) (by simp[gD])⟩ ?_;rintro Y ⟨c,d⟩;have g:=hid c;have i:=hid d;clear c d))
 exact ao (v:=.agg _) (by simp only[results,results48];simp;exact Pl.res (zii i.out)) U ⟨U,g.out⟩
end
theorem sO{P:Program}{a:Act}{o:Oper}{w:World}(t:TypeId)(i:Nat)(x:Operand)(d:o.op=.build t #[(i,x)])(c v:Value)(e:a.eval x=c)
 (b:(Instr.build t #[(i,c)]).run P w=.ok v w):(execOp a.eval o).run P w=.ok (.value v) w :=
 zde t _ d v (by simp only[dj,bP,cB,e];exact b)
structure NG (w : World) (l1 l2 : List UInt8) (F : Gx) (M : Mach) (Y : World) : Prop where
 gd:Gd F Y M Tk.zero
 low:Below w.heap.size w Y
 res:Bx Y w.heap.size (D aE aM)
 B:w.heap.size<F.B
 ro:F.apart M (λj=>j=w.heap.size)
theorem NG.kept{w Y Y':World}{l1 l2:List UInt8}{F:Gx}{M:Mach}(h:NG w l1 l2 F M Y)(hb:Below Y.heap.size Y Y'):NG w l1 l2 F M Y':=⟨h.gd.kept hb,bn h.low hb,h.res.kept hb,h.B,h.ro⟩
theorem ziD{W:World}{n b:Nat}(h:Bx W b (List.replicate n (.int .u8 0))):Rw W (.slice (some ⟨b,0,none⟩) n n) b (List.replicate n 0):=by
 refine Or.inr ⟨n,by simp,by simp,?_⟩;have e:dW (List.replicate n 0)=List.replicate n (.int .u8 0):=by unfold dW;rw[List.map_replicate];rfl
 rw[e];exact h
theorem NG.of{w Y:World}{l1 l2:List UInt8}{a1 a2:Option Addr}{c1 c2 b1 b2 b3:Nat}(c:l1.length<=1024)(f:l2.length<=1024)(g:sliceAt w (.slice a1 l1.length c1) l1)(i:sliceAt w (.slice a2 l2.length c2) l2)(b:Below w.heap.size w Y)(j:Bx Y w.heap.size (D aE aM))
 (x1:Bx Y b1 (List.replicate 128 (.int .u8 0))) (x2:Bx Y b2 (List.replicate 64 (.int .u8 0))) (x3:Bx Y b3 (List.replicate 256 (.int .u8 0))) (d:w.heap.size<b1/\w.heap.size<b2/\w.heap.size<b3/\b1≠b2/\b1≠b3/\b2≠b3) (t:TypeId) :
 NG w l1 l2 ⟨w.heap.size+1,Y.heap.size,0,0,b1,b2,b3,⟨.slice a1 l1.length c1,.slice a2 l2.length c2,.slice (some ⟨b1,0,none⟩) 128 128,.slice (some ⟨b2,0,none⟩) 64 64,.slice (some ⟨b3,0,none⟩) 256 256⟩⟩ (b9 l1 l2)
  (Y.alloc (.cells (D (b9 l1 l2) ⟨.slice a1 l1.length c1,.slice a2 l2.length c2,.slice (some ⟨b1,0,none⟩) 128 128,.slice (some ⟨b2,0,none⟩) 64 64,.slice (some ⟨b3,0,none⟩) 256 256⟩++nf).toArray t)):=by
 have m:=b.size;have n:=x1.z;have z2:=x2.z;have z3:=x3.z;have o:=j.z;have l:∀ k,k<w.heap.size->¬ (k=Y.heap.size \/ k=b1 \/ k=b2 \/ k=b3):=λk a h=>by omega
 refine⟨⟨Bx.new Y _ t U,(g.kept b).kept (stA (J Y) _),(i.kept b).kept (stA (J Y) _),ziD (x1.over _),ziD (x2.over _),ziD (x3.over _),⟨⟨by show w.heap.size+1<=Y.heap.size;omega,by show w.heap.size+1<=b1;omega,by show w.heap.size+1<=b2;omega,by show w.heap.size+1<=b3;omega⟩,⟨by show Y.heap.size≠b1;omega,by show Y.heap.size≠b2;omega,by show Y.heap.size≠b3;omega,d.2.2.2.1,d.2.2.2.2.1,d.2.2.2.2.2⟩⟩,ziB l1 l2 c f,by show w.heap.size+1<=(Y.alloc _).heap.size;simp;omega,cW _ _ _ _,⟨λhp k a=>l k (g.lt hp k a),λhp k a=>l k (i.lt hp k a)⟩,λk a=>by cases a⟩,stA b _,j.over _,by show w.heap.size<w.heap.size+1;omega,⟨λhp k a e=>by have:=g.lt hp k a;omega,λhp k a e=>by have:=i.lt hp k a;omega⟩⟩
theorem sP{w Y:World}{l1 l2:List UInt8}{a1 a2:Option Addr}{c1 c2 b1 b2 b3:Nat}(a:sliceAt w (.slice a1 l1.length c1) l1)(b:sliceAt w (.slice a2 l2.length c2) l2)(c:Below w.heap.size w Y)(d:Bx Y w.heap.size (D aE aM))
 (x1:Bx Y b1 (List.replicate 128 (.int .u8 0))) (x2:Bx Y b2 (List.replicate 64 (.int .u8 0))) (x3:Bx Y b3 (List.replicate 256 (.int .u8 0))):NF w l1 l2 ⟨.slice a1 l1.length c1,.slice a2 l2.length c2,.slice (some ⟨b1,0,none⟩) 128 128,.slice (some ⟨b2,0,none⟩) 64 64,.slice (some ⟨b3,0,none⟩) 256 256⟩ Y/\Bx Y b1 (List.replicate 128 (.int .u8 0))/\Bx Y b2 (List.replicate 64 (.int .u8 0))/\Bx Y b3 (List.replicate 256 (.int .u8 0)):=⟨NF.of a b c d x1 x2 x3,x1,x2,x3⟩
theorem Gd.isSl{F:Gx}{W:World}{M:Mach}{tk:Tk}(h:Gd F W M tk):F.S.isSl:=λj b=>by
 obtain⟨a,c,e⟩:=h.slAt.lens j b;exact⟨_,_,_,e⟩
theorem NG.main{w Y:World}{l1 l2:List UInt8}{F:Gx}(h:NG w l1 l2 F (b9 l1 l2) Y):NG w l1 l2 F (cq l1 l2) (Y.setCells F.g 0 (gD ((b9 l1 l2).lookM 0*256+(b9 l1 l2).lookM 1))):=by
 have a:=tK _ _ (nC (b9 l1 l2) 0) (nC (b9 l1 l2) 1);have b:(cq l1 l2).fit:=Mach.fit.of h.gd.fit { h.gd.fit with main:=a } ⟨U,U,U,U,U⟩ U ⟨U,U,U⟩ ⟨U,U⟩ (Or.inl U);rw[zlN];have lo:=h.gd.nd.lo.1;have hB:=h.B;exact⟨h.gd.puts (M':=cq l1 l2) (tk':=Tk.zero) 0 (bG (dO ((b9 l1 l2).lookM 0) ((b9 l1 l2).lookM 1))) (by simp[bG]) (F.putMain _ _ _) ⟨U,U,U,U,U⟩ b,Bl.puts h.low (by omega) _,h.res.fars (by omega) _ _,hB,Gx.apart_of h.ro U U⟩
theorem NG.fin{w Y:World}{l1 l2:List UInt8}{F:Gx}{M:Mach}(h:NG w l1 l2 F M Y):Below w.heap.size w (Y.setCells w.heap.size 0 (D M F.S))/\Bx (Y.setCells w.heap.size 0 (D M F.S)) w.heap.size (D M F.S)/\bM (Y.setCells w.heap.size 0 (D M F.S)) F.S M:=by
 have b:=h.res.puts 0 (D M F.S) (by rw[cy,cy];omega);rw[jJ _ _ (by rw[cy,cy])] at b;have lo:=h.gd.nd.lo;have hB:=h.B;refine⟨Bl.puts h.low (ak _) _,b,λj c=>?_⟩;rcases five c with rfl|rfl|rfl|rfl|rfl
 ·exact h.gd.mr.same (bA (lU _ _ _ _).symm) (λhp k a _=>fO (λe=>h.ro.1 hp k a e) _ _ _)
 ·exact h.gd.ar.same (bA (lU _ _ _ _).symm) (λhp k a _=>fO (λe=>h.ro.2 hp k a e) _ _ _)
 ·exact(h.gd.ra.offB (by omega) _ _).slice
 ·exact(h.gd.ow.offB (by omega) _ _).slice
 ·exact(h.gd.vi.offB (by omega) _ _).slice
theorem zeC(l1 l2:List UInt8)(W v2:Value)(w:World)(h1:sliceAt w W l1)(h2:sliceAt w v2 l2)(l:l1.length<=1024)(m:l2.length<=1024):Calls prog 23 #[W,v2] w λe w'=>∃ S',e=.returned (.agg (D (cq l1 l2) S').toArray)/\bM w' S' (cq l1 l2)/\(cq l1 l2).fit/\Below w.heap.size w w':=by
 obtain⟨a1,c1,e1⟩:=oJ h1;obtain⟨a2,c2,e2⟩:=oJ h2;subst e1 e2;have n:=hid h1;have o:=hid h2;have t:=hid (Bx.new w (D aE aM) 41 (b:=w.heap.size) U);clear h1 h2;go_enter func23,ntmps23;go_upto_region 1 with fail
 go_cut [5] (λv5 Y=>∃ F,v5=pt F.g 0/\NG w l1 l2 F (b9 l1 l2) Y)
 case first =>
  refine wp_region_held_drew (S:=λ_=>True) (by kernel_rfl) trivial ?_;intro _;refine A 0 trivial ?_;refine A 1 trivial ?_;refine wpAnyH_ready (rs:=[2,3,4]) (by kernel_rfl) (by simp) ?_;refine iG (op:=⟨some 8,_,_,_,_,none⟩) U U 26 _ _ U (.int .i64 128) (.int .i64 128) _ U U (iw _ (w.heap.size+1) (by simp)) trivial ?_ (iG (op:=⟨some 9,_,_,_,_,none⟩) U U 26 _ _ U (.int .i64 64) (.int .i64 64) _ U U (kj _ (w.heap.size+1) (by simp)) trivial ?_ (iG (op:=⟨some 10,_,_,_,_,none⟩) U U 26 _ _ U (.int .i64 256) (.int .i64 256) _ U U (nc _ (w.heap.size+1) (by simp)) trivial ?_ AllReadyH.nil));all_goals simp only[Act.put,xA,xB,xC]
  ·refine wpAnyH_ready (rs:=[3,4]) (by kernel_rfl) (by simp) ?_
   refine iG (op:=⟨some 9,_,_,_,_,none⟩) U U 26 _ _ U (.int .i64 64) (.int .i64 64) _ U U (kj _ (w.heap.size+1+1) (by simp)) trivial ?_ (iG (op:=⟨some 10,_,_,_,_,none⟩) U U 26 _ _ U (.int .i64 256) (.int .i64 256) _ U U (nc _ (w.heap.size+1+1) (by simp)) trivial ?_ AllReadyH.nil);all_goals simp only[Act.put,xA,xB,xC]
   ·refine wpAnyH_ready (rs:=[4]) (by kernel_rfl) (by simp) ?_
    refine iG (op:=⟨some 10,_,_,_,_,none⟩) U U 26 _ _ U (.int .i64 256) (.int .i64 256) _ U U (nc _ (w.heap.size+1+1+1) (by simp)) trivial ?_ AllReadyH.nil;all_goals simp only[Act.put,xA,xB,xC]
    refine ij (λY=>NF w l1 l2 ⟨.slice a1 l1.length c1,.slice a2 l2.length c2,.slice (some ⟨w.heap.size+1,0,none⟩) 128 128,.slice (some ⟨w.heap.size+1+1,0,none⟩) 64 64,.slice (some ⟨w.heap.size+1+1+1,0,none⟩) 256 256⟩ Y/\Bx Y (w.heap.size+1) (List.replicate 128 (.int .u8 0))/\Bx Y (w.heap.size+1+1) (List.replicate 64 (.int .u8 0))/\Bx Y (w.heap.size+1+1+1) (List.replicate 256 (.int .u8 0))) (sP n.out o.out ?_ ?_ ?_ ?_ ?_) ?_
    ·repeat (first|exact J _|refine cx ?_|refine stA ?_ _)
    ·repeat (first|exact t.out|refine Bx.drew ?_|refine Bx.over ?_ _)
    ·repeat (first|exact Bx.new _ (List.replicate 128 (.int .u8 0)) _ (by simp)|refine Bx.drew ?_|refine Bx.over ?_ _)
    ·repeat (first|exact Bx.new _ (List.replicate 64 (.int .u8 0)) _ (by simp)|refine Bx.drew ?_|refine Bx.over ?_ _)
    ·repeat (first|exact Bx.new _ (List.replicate 256 (.int .u8 0)) _ (by simp)|refine Bx.drew ?_|refine Bx.over ?_ _)
    rintro Y ⟨a,d,f,h⟩;have k:=hid (NG.of l m n.out o.out a.low a.res d f h (by omega) 107);clear a d f h;refine iq 5 (.agg (D (b9 l1 l2) ⟨.slice a1 l1.length c1,.slice a2 l2.length c2,.slice (some ⟨w.heap.size+1,0,none⟩) 128 128,.slice (some ⟨w.heap.size+1+1,0,none⟩) 64 64,.slice (some ⟨w.heap.size+1+1+1,0,none⟩) 256 256⟩).toArray) U (λw' _=>mF 41 2 3 4 5 6 14 _ _ _ _ _ _ U _ _ _ _ _ _ _ U U U U U U (mD a1 a2 l1.length c1 l2.length c2 (w.heap.size+1) (w.heap.size+1+1) (w.heap.size+1+1+1) l1 l2 w')) trivial ?_;refine iq 6 (.agg (D (b9 l1 l2) ⟨.slice a1 l1.length c1,.slice a2 l2.length c2,.slice (some ⟨w.heap.size+1,0,none⟩) 128 128,.slice (some ⟨w.heap.size+1+1,0,none⟩) 64 64,.slice (some ⟨w.heap.size+1+1+1,0,none⟩) 256 256⟩++nf).toArray) U (λw' _=>sO 107 0 _ U _ _ U (qu (b9 l1 l2) ⟨.slice a1 l1.length c1,.slice a2 l2.length c2,.slice (some ⟨w.heap.size+1,0,none⟩) 128 128,.slice (some ⟨w.heap.size+1+1,0,none⟩) 64 64,.slice (some ⟨w.heap.size+1+1+1,0,none⟩) 256 256⟩ w')) trivial ?_
    refine dQ 7 (λK i=>?_);go_simp;refine i.out _ _ trivial (λ_=>?_);clear i K;refine ij (NG w l1 l2 ⟨w.heap.size+1,Y.heap.size,0,0,w.heap.size+1,w.heap.size+1+1,w.heap.size+1+1+1,⟨.slice a1 l1.length c1,.slice a2 l2.length c2,.slice (some ⟨w.heap.size+1,0,none⟩) 128 128,.slice (some ⟨w.heap.size+1+1,0,none⟩) 64 64,.slice (some ⟨w.heap.size+1+1+1,0,none⟩) 256 256⟩⟩ (b9 l1 l2)) k.out ?_;intro Z j;have p:=hid j;clear j;try simp only[Act.put,xA,xB,xC]
    refine A 8 trivial ?_;refine wpAnyH_done (by kernel_rfl) ?_ _;try go_simp
    rename_i q _ _;refine q _ _ ?_;go_meet;exact⟨_,U,p.out⟩
   ·refine wpAnyH_ready (rs:=[3]) (by kernel_rfl) (by simp) ?_
    refine iG (op:=⟨some 9,_,_,_,_,none⟩) U U 26 _ _ U (.int .i64 64) (.int .i64 64) _ U U (kj _ (w.heap.size+1+1+1) (by simp)) trivial ?_ AllReadyH.nil;all_goals simp only[Act.put,xA,xB,xC]
    refine ij (λY=>NF w l1 l2 ⟨.slice a1 l1.length c1,.slice a2 l2.length c2,.slice (some ⟨w.heap.size+1,0,none⟩) 128 128,.slice (some ⟨w.heap.size+1+1+1,0,none⟩) 64 64,.slice (some ⟨w.heap.size+1+1,0,none⟩) 256 256⟩ Y/\Bx Y (w.heap.size+1) (List.replicate 128 (.int .u8 0))/\Bx Y (w.heap.size+1+1+1) (List.replicate 64 (.int .u8 0))/\Bx Y (w.heap.size+1+1) (List.replicate 256 (.int .u8 0))) (sP n.out o.out ?_ ?_ ?_ ?_ ?_) ?_
    ·repeat (first|exact J _|refine cx ?_|refine stA ?_ _)
    ·repeat (first|exact t.out|refine Bx.drew ?_|refine Bx.over ?_ _)
    ·repeat (first|exact Bx.new _ (List.replicate 128 (.int .u8 0)) _ (by simp)|refine Bx.drew ?_|refine Bx.over ?_ _)
    ·repeat (first|exact Bx.new _ (List.replicate 64 (.int .u8 0)) _ (by simp)|refine Bx.drew ?_|refine Bx.over ?_ _)
    ·repeat (first|exact Bx.new _ (List.replicate 256 (.int .u8 0)) _ (by simp)|refine Bx.drew ?_|refine Bx.over ?_ _)
    rintro Y ⟨a,d,f,h⟩;have k:=hid (NG.of l m n.out o.out a.low a.res d f h (by omega) 107);clear a d f h;refine iq 5 (.agg (D (b9 l1 l2) ⟨.slice a1 l1.length c1,.slice a2 l2.length c2,.slice (some ⟨w.heap.size+1,0,none⟩) 128 128,.slice (some ⟨w.heap.size+1+1+1,0,none⟩) 64 64,.slice (some ⟨w.heap.size+1+1,0,none⟩) 256 256⟩).toArray) U (λw' _=>mF 41 2 3 4 5 6 14 _ _ _ _ _ _ U _ _ _ _ _ _ _ U U U U U U (mD a1 a2 l1.length c1 l2.length c2 (w.heap.size+1) (w.heap.size+1+1+1) (w.heap.size+1+1) l1 l2 w')) trivial ?_;refine iq 6 (.agg (D (b9 l1 l2) ⟨.slice a1 l1.length c1,.slice a2 l2.length c2,.slice (some ⟨w.heap.size+1,0,none⟩) 128 128,.slice (some ⟨w.heap.size+1+1+1,0,none⟩) 64 64,.slice (some ⟨w.heap.size+1+1,0,none⟩) 256 256⟩++nf).toArray) U (λw' _=>sO 107 0 _ U _ _ U (qu (b9 l1 l2) ⟨.slice a1 l1.length c1,.slice a2 l2.length c2,.slice (some ⟨w.heap.size+1,0,none⟩) 128 128,.slice (some ⟨w.heap.size+1+1+1,0,none⟩) 64 64,.slice (some ⟨w.heap.size+1+1,0,none⟩) 256 256⟩ w')) trivial ?_
    refine dQ 7 (λK i=>?_);go_simp;refine i.out _ _ trivial (λ_=>?_);clear i K;refine ij (NG w l1 l2 ⟨w.heap.size+1,Y.heap.size,0,0,w.heap.size+1,w.heap.size+1+1+1,w.heap.size+1+1,⟨.slice a1 l1.length c1,.slice a2 l2.length c2,.slice (some ⟨w.heap.size+1,0,none⟩) 128 128,.slice (some ⟨w.heap.size+1+1+1,0,none⟩) 64 64,.slice (some ⟨w.heap.size+1+1,0,none⟩) 256 256⟩⟩ (b9 l1 l2)) k.out ?_;intro Z j;have p:=hid j;clear j;try simp only[Act.put,xA,xB,xC]
    refine A 8 trivial ?_;refine wpAnyH_done (by kernel_rfl) ?_ _;try go_simp
    rename_i q _ _;refine q _ _ ?_;go_meet;exact⟨_,U,p.out⟩
  ·refine wpAnyH_ready (rs:=[2,4]) (by kernel_rfl) (by simp) ?_
   refine iG (op:=⟨some 8,_,_,_,_,none⟩) U U 26 _ _ U (.int .i64 128) (.int .i64 128) _ U U (iw _ (w.heap.size+1+1) (by simp)) trivial ?_ (iG (op:=⟨some 10,_,_,_,_,none⟩) U U 26 _ _ U (.int .i64 256) (.int .i64 256) _ U U (nc _ (w.heap.size+1+1) (by simp)) trivial ?_ AllReadyH.nil);all_goals simp only[Act.put,xA,xB,xC]
   ·refine wpAnyH_ready (rs:=[4]) (by kernel_rfl) (by simp) ?_
    refine iG (op:=⟨some 10,_,_,_,_,none⟩) U U 26 _ _ U (.int .i64 256) (.int .i64 256) _ U U (nc _ (w.heap.size+1+1+1) (by simp)) trivial ?_ AllReadyH.nil;all_goals simp only[Act.put,xA,xB,xC]
    refine ij (λY=>NF w l1 l2 ⟨.slice a1 l1.length c1,.slice a2 l2.length c2,.slice (some ⟨w.heap.size+1+1,0,none⟩) 128 128,.slice (some ⟨w.heap.size+1,0,none⟩) 64 64,.slice (some ⟨w.heap.size+1+1+1,0,none⟩) 256 256⟩ Y/\Bx Y (w.heap.size+1+1) (List.replicate 128 (.int .u8 0))/\Bx Y (w.heap.size+1) (List.replicate 64 (.int .u8 0))/\Bx Y (w.heap.size+1+1+1) (List.replicate 256 (.int .u8 0))) (sP n.out o.out ?_ ?_ ?_ ?_ ?_) ?_
    ·repeat (first|exact J _|refine cx ?_|refine stA ?_ _)
    ·repeat (first|exact t.out|refine Bx.drew ?_|refine Bx.over ?_ _)
    ·repeat (first|exact Bx.new _ (List.replicate 128 (.int .u8 0)) _ (by simp)|refine Bx.drew ?_|refine Bx.over ?_ _)
    ·repeat (first|exact Bx.new _ (List.replicate 64 (.int .u8 0)) _ (by simp)|refine Bx.drew ?_|refine Bx.over ?_ _)
    ·repeat (first|exact Bx.new _ (List.replicate 256 (.int .u8 0)) _ (by simp)|refine Bx.drew ?_|refine Bx.over ?_ _)
    rintro Y ⟨a,d,f,h⟩;have k:=hid (NG.of l m n.out o.out a.low a.res d f h (by omega) 107);clear a d f h;refine iq 5 (.agg (D (b9 l1 l2) ⟨.slice a1 l1.length c1,.slice a2 l2.length c2,.slice (some ⟨w.heap.size+1+1,0,none⟩) 128 128,.slice (some ⟨w.heap.size+1,0,none⟩) 64 64,.slice (some ⟨w.heap.size+1+1+1,0,none⟩) 256 256⟩).toArray) U (λw' _=>mF 41 2 3 4 5 6 14 _ _ _ _ _ _ U _ _ _ _ _ _ _ U U U U U U (mD a1 a2 l1.length c1 l2.length c2 (w.heap.size+1+1) (w.heap.size+1) (w.heap.size+1+1+1) l1 l2 w')) trivial ?_;refine iq 6 (.agg (D (b9 l1 l2) ⟨.slice a1 l1.length c1,.slice a2 l2.length c2,.slice (some ⟨w.heap.size+1+1,0,none⟩) 128 128,.slice (some ⟨w.heap.size+1,0,none⟩) 64 64,.slice (some ⟨w.heap.size+1+1+1,0,none⟩) 256 256⟩++nf).toArray) U (λw' _=>sO 107 0 _ U _ _ U (qu (b9 l1 l2) ⟨.slice a1 l1.length c1,.slice a2 l2.length c2,.slice (some ⟨w.heap.size+1+1,0,none⟩) 128 128,.slice (some ⟨w.heap.size+1,0,none⟩) 64 64,.slice (some ⟨w.heap.size+1+1+1,0,none⟩) 256 256⟩ w')) trivial ?_
    refine dQ 7 (λK i=>?_);go_simp;refine i.out _ _ trivial (λ_=>?_);clear i K;refine ij (NG w l1 l2 ⟨w.heap.size+1,Y.heap.size,0,0,w.heap.size+1+1,w.heap.size+1,w.heap.size+1+1+1,⟨.slice a1 l1.length c1,.slice a2 l2.length c2,.slice (some ⟨w.heap.size+1+1,0,none⟩) 128 128,.slice (some ⟨w.heap.size+1,0,none⟩) 64 64,.slice (some ⟨w.heap.size+1+1+1,0,none⟩) 256 256⟩⟩ (b9 l1 l2)) k.out ?_;intro Z j;have p:=hid j;clear j;try simp only[Act.put,xA,xB,xC]
    refine A 8 trivial ?_;refine wpAnyH_done (by kernel_rfl) ?_ _;try go_simp
    rename_i q _ _;refine q _ _ ?_;go_meet;exact⟨_,U,p.out⟩
   ·refine wpAnyH_ready (rs:=[2]) (by kernel_rfl) (by simp) ?_
    refine iG (op:=⟨some 8,_,_,_,_,none⟩) U U 26 _ _ U (.int .i64 128) (.int .i64 128) _ U U (iw _ (w.heap.size+1+1+1) (by simp)) trivial ?_ AllReadyH.nil;all_goals simp only[Act.put,xA,xB,xC]
    refine ij (λY=>NF w l1 l2 ⟨.slice a1 l1.length c1,.slice a2 l2.length c2,.slice (some ⟨w.heap.size+1+1+1,0,none⟩) 128 128,.slice (some ⟨w.heap.size+1,0,none⟩) 64 64,.slice (some ⟨w.heap.size+1+1,0,none⟩) 256 256⟩ Y/\Bx Y (w.heap.size+1+1+1) (List.replicate 128 (.int .u8 0))/\Bx Y (w.heap.size+1) (List.replicate 64 (.int .u8 0))/\Bx Y (w.heap.size+1+1) (List.replicate 256 (.int .u8 0))) (sP n.out o.out ?_ ?_ ?_ ?_ ?_) ?_
    ·repeat (first|exact J _|refine cx ?_|refine stA ?_ _)
    ·repeat (first|exact t.out|refine Bx.drew ?_|refine Bx.over ?_ _)
    ·repeat (first|exact Bx.new _ (List.replicate 128 (.int .u8 0)) _ (by simp)|refine Bx.drew ?_|refine Bx.over ?_ _)
    ·repeat (first|exact Bx.new _ (List.replicate 64 (.int .u8 0)) _ (by simp)|refine Bx.drew ?_|refine Bx.over ?_ _)
    ·repeat (first|exact Bx.new _ (List.replicate 256 (.int .u8 0)) _ (by simp)|refine Bx.drew ?_|refine Bx.over ?_ _)
    rintro Y ⟨a,d,f,h⟩;have k:=hid (NG.of l m n.out o.out a.low a.res d f h (by omega) 107);clear a d f h;refine iq 5 (.agg (D (b9 l1 l2) ⟨.slice a1 l1.length c1,.slice a2 l2.length c2,.slice (some ⟨w.heap.size+1+1+1,0,none⟩) 128 128,.slice (some ⟨w.heap.size+1,0,none⟩) 64 64,.slice (some ⟨w.heap.size+1+1,0,none⟩) 256 256⟩).toArray) U (λw' _=>mF 41 2 3 4 5 6 14 _ _ _ _ _ _ U _ _ _ _ _ _ _ U U U U U U (mD a1 a2 l1.length c1 l2.length c2 (w.heap.size+1+1+1) (w.heap.size+1) (w.heap.size+1+1) l1 l2 w')) trivial ?_;refine iq 6 (.agg (D (b9 l1 l2) ⟨.slice a1 l1.length c1,.slice a2 l2.length c2,.slice (some ⟨w.heap.size+1+1+1,0,none⟩) 128 128,.slice (some ⟨w.heap.size+1,0,none⟩) 64 64,.slice (some ⟨w.heap.size+1+1,0,none⟩) 256 256⟩++nf).toArray) U (λw' _=>sO 107 0 _ U _ _ U (qu (b9 l1 l2) ⟨.slice a1 l1.length c1,.slice a2 l2.length c2,.slice (some ⟨w.heap.size+1+1+1,0,none⟩) 128 128,.slice (some ⟨w.heap.size+1,0,none⟩) 64 64,.slice (some ⟨w.heap.size+1+1,0,none⟩) 256 256⟩ w')) trivial ?_
    refine dQ 7 (λK i=>?_);go_simp;refine i.out _ _ trivial (λ_=>?_);clear i K;refine ij (NG w l1 l2 ⟨w.heap.size+1,Y.heap.size,0,0,w.heap.size+1+1+1,w.heap.size+1,w.heap.size+1+1,⟨.slice a1 l1.length c1,.slice a2 l2.length c2,.slice (some ⟨w.heap.size+1+1+1,0,none⟩) 128 128,.slice (some ⟨w.heap.size+1,0,none⟩) 64 64,.slice (some ⟨w.heap.size+1+1,0,none⟩) 256 256⟩⟩ (b9 l1 l2)) k.out ?_;intro Z j;have p:=hid j;clear j;try simp only[Act.put,xA,xB,xC]
    refine A 8 trivial ?_;refine wpAnyH_done (by kernel_rfl) ?_ _;try go_simp
    rename_i q _ _;refine q _ _ ?_;go_meet;exact⟨_,U,p.out⟩
  ·refine wpAnyH_ready (rs:=[2,3]) (by kernel_rfl) (by simp) ?_
   refine iG (op:=⟨some 8,_,_,_,_,none⟩) U U 26 _ _ U (.int .i64 128) (.int .i64 128) _ U U (iw _ (w.heap.size+1+1) (by simp)) trivial ?_ (iG (op:=⟨some 9,_,_,_,_,none⟩) U U 26 _ _ U (.int .i64 64) (.int .i64 64) _ U U (kj _ (w.heap.size+1+1) (by simp)) trivial ?_ AllReadyH.nil);all_goals simp only[Act.put,xA,xB,xC]
   ·refine wpAnyH_ready (rs:=[3]) (by kernel_rfl) (by simp) ?_
    refine iG (op:=⟨some 9,_,_,_,_,none⟩) U U 26 _ _ U (.int .i64 64) (.int .i64 64) _ U U (kj _ (w.heap.size+1+1+1) (by simp)) trivial ?_ AllReadyH.nil;all_goals simp only[Act.put,xA,xB,xC]
    refine ij (λY=>NF w l1 l2 ⟨.slice a1 l1.length c1,.slice a2 l2.length c2,.slice (some ⟨w.heap.size+1+1,0,none⟩) 128 128,.slice (some ⟨w.heap.size+1+1+1,0,none⟩) 64 64,.slice (some ⟨w.heap.size+1,0,none⟩) 256 256⟩ Y/\Bx Y (w.heap.size+1+1) (List.replicate 128 (.int .u8 0))/\Bx Y (w.heap.size+1+1+1) (List.replicate 64 (.int .u8 0))/\Bx Y (w.heap.size+1) (List.replicate 256 (.int .u8 0))) (sP n.out o.out ?_ ?_ ?_ ?_ ?_) ?_
    ·repeat (first|exact J _|refine cx ?_|refine stA ?_ _)
    ·repeat (first|exact t.out|refine Bx.drew ?_|refine Bx.over ?_ _)
    ·repeat (first|exact Bx.new _ (List.replicate 128 (.int .u8 0)) _ (by simp)|refine Bx.drew ?_|refine Bx.over ?_ _)
    ·repeat (first|exact Bx.new _ (List.replicate 64 (.int .u8 0)) _ (by simp)|refine Bx.drew ?_|refine Bx.over ?_ _)
    ·repeat (first|exact Bx.new _ (List.replicate 256 (.int .u8 0)) _ (by simp)|refine Bx.drew ?_|refine Bx.over ?_ _)
    rintro Y ⟨a,d,f,h⟩;have k:=hid (NG.of l m n.out o.out a.low a.res d f h (by omega) 107);clear a d f h;refine iq 5 (.agg (D (b9 l1 l2) ⟨.slice a1 l1.length c1,.slice a2 l2.length c2,.slice (some ⟨w.heap.size+1+1,0,none⟩) 128 128,.slice (some ⟨w.heap.size+1+1+1,0,none⟩) 64 64,.slice (some ⟨w.heap.size+1,0,none⟩) 256 256⟩).toArray) U (λw' _=>mF 41 2 3 4 5 6 14 _ _ _ _ _ _ U _ _ _ _ _ _ _ U U U U U U (mD a1 a2 l1.length c1 l2.length c2 (w.heap.size+1+1) (w.heap.size+1+1+1) (w.heap.size+1) l1 l2 w')) trivial ?_;refine iq 6 (.agg (D (b9 l1 l2) ⟨.slice a1 l1.length c1,.slice a2 l2.length c2,.slice (some ⟨w.heap.size+1+1,0,none⟩) 128 128,.slice (some ⟨w.heap.size+1+1+1,0,none⟩) 64 64,.slice (some ⟨w.heap.size+1,0,none⟩) 256 256⟩++nf).toArray) U (λw' _=>sO 107 0 _ U _ _ U (qu (b9 l1 l2) ⟨.slice a1 l1.length c1,.slice a2 l2.length c2,.slice (some ⟨w.heap.size+1+1,0,none⟩) 128 128,.slice (some ⟨w.heap.size+1+1+1,0,none⟩) 64 64,.slice (some ⟨w.heap.size+1,0,none⟩) 256 256⟩ w')) trivial ?_
    refine dQ 7 (λK i=>?_);go_simp;refine i.out _ _ trivial (λ_=>?_);clear i K;refine ij (NG w l1 l2 ⟨w.heap.size+1,Y.heap.size,0,0,w.heap.size+1+1,w.heap.size+1+1+1,w.heap.size+1,⟨.slice a1 l1.length c1,.slice a2 l2.length c2,.slice (some ⟨w.heap.size+1+1,0,none⟩) 128 128,.slice (some ⟨w.heap.size+1+1+1,0,none⟩) 64 64,.slice (some ⟨w.heap.size+1,0,none⟩) 256 256⟩⟩ (b9 l1 l2)) k.out ?_;intro Z j;have p:=hid j;clear j;try simp only[Act.put,xA,xB,xC]
    refine A 8 trivial ?_;refine wpAnyH_done (by kernel_rfl) ?_ _;try go_simp
    rename_i q _ _;refine q _ _ ?_;go_meet;exact⟨_,U,p.out⟩
   ·refine wpAnyH_ready (rs:=[2]) (by kernel_rfl) (by simp) ?_
    refine iG (op:=⟨some 8,_,_,_,_,none⟩) U U 26 _ _ U (.int .i64 128) (.int .i64 128) _ U U (iw _ (w.heap.size+1+1+1) (by simp)) trivial ?_ AllReadyH.nil;all_goals simp only[Act.put,xA,xB,xC]
    refine ij (λY=>NF w l1 l2 ⟨.slice a1 l1.length c1,.slice a2 l2.length c2,.slice (some ⟨w.heap.size+1+1+1,0,none⟩) 128 128,.slice (some ⟨w.heap.size+1+1,0,none⟩) 64 64,.slice (some ⟨w.heap.size+1,0,none⟩) 256 256⟩ Y/\Bx Y (w.heap.size+1+1+1) (List.replicate 128 (.int .u8 0))/\Bx Y (w.heap.size+1+1) (List.replicate 64 (.int .u8 0))/\Bx Y (w.heap.size+1) (List.replicate 256 (.int .u8 0))) (sP n.out o.out ?_ ?_ ?_ ?_ ?_) ?_
    ·repeat (first|exact J _|refine cx ?_|refine stA ?_ _)
    ·repeat (first|exact t.out|refine Bx.drew ?_|refine Bx.over ?_ _)
    ·repeat (first|exact Bx.new _ (List.replicate 128 (.int .u8 0)) _ (by simp)|refine Bx.drew ?_|refine Bx.over ?_ _)
    ·repeat (first|exact Bx.new _ (List.replicate 64 (.int .u8 0)) _ (by simp)|refine Bx.drew ?_|refine Bx.over ?_ _)
    ·repeat (first|exact Bx.new _ (List.replicate 256 (.int .u8 0)) _ (by simp)|refine Bx.drew ?_|refine Bx.over ?_ _)
    rintro Y ⟨a,d,f,h⟩;have k:=hid (NG.of l m n.out o.out a.low a.res d f h (by omega) 107);clear a d f h;refine iq 5 (.agg (D (b9 l1 l2) ⟨.slice a1 l1.length c1,.slice a2 l2.length c2,.slice (some ⟨w.heap.size+1+1+1,0,none⟩) 128 128,.slice (some ⟨w.heap.size+1+1,0,none⟩) 64 64,.slice (some ⟨w.heap.size+1,0,none⟩) 256 256⟩).toArray) U (λw' _=>mF 41 2 3 4 5 6 14 _ _ _ _ _ _ U _ _ _ _ _ _ _ U U U U U U (mD a1 a2 l1.length c1 l2.length c2 (w.heap.size+1+1+1) (w.heap.size+1+1) (w.heap.size+1) l1 l2 w')) trivial ?_;refine iq 6 (.agg (D (b9 l1 l2) ⟨.slice a1 l1.length c1,.slice a2 l2.length c2,.slice (some ⟨w.heap.size+1+1+1,0,none⟩) 128 128,.slice (some ⟨w.heap.size+1+1,0,none⟩) 64 64,.slice (some ⟨w.heap.size+1,0,none⟩) 256 256⟩++nf).toArray) U (λw' _=>sO 107 0 _ U _ _ U (qu (b9 l1 l2) ⟨.slice a1 l1.length c1,.slice a2 l2.length c2,.slice (some ⟨w.heap.size+1+1+1,0,none⟩) 128 128,.slice (some ⟨w.heap.size+1+1,0,none⟩) 64 64,.slice (some ⟨w.heap.size+1,0,none⟩) 256 256⟩ w')) trivial ?_
    refine dQ 7 (λK i=>?_);go_simp;refine i.out _ _ trivial (λ_=>?_);clear i K;refine ij (NG w l1 l2 ⟨w.heap.size+1,Y.heap.size,0,0,w.heap.size+1+1+1,w.heap.size+1+1,w.heap.size+1,⟨.slice a1 l1.length c1,.slice a2 l2.length c2,.slice (some ⟨w.heap.size+1+1+1,0,none⟩) 128 128,.slice (some ⟨w.heap.size+1+1,0,none⟩) 64 64,.slice (some ⟨w.heap.size+1,0,none⟩) 256 256⟩⟩ (b9 l1 l2)) k.out ?_;intro Z j;have p:=hid j;clear j;try simp only[Act.put,xA,xB,xC]
    refine A 8 trivial ?_;refine wpAnyH_done (by kernel_rfl) ?_ _;try go_simp
    rename_i q _ _;refine q _ _ ?_;go_meet;exact⟨_,U,p.out⟩
 case rest =>
 obtain⟨F,rfl,L⟩:=hcut;have k:=hid L;have hg:=L.gd.bx.z;clear L;go_wp2_with (first
  | (go_at_call 49;refine(zlY F.g _).mono ?_;rintro e w2 ⟨rfl,u,x⟩;have r:=hid (k.out.kept u);have M:=hid (MainV.pu k.out.gd x);have hg2:=r.out.gd.bx.z;clear u x)
  | (go_at_call 48;refine(zo2 r.out.gd M.out.g).mono ?_;rintro e w3 ⟨rfl,y⟩;have s:=hid (r.out.kept y);have hg3:=s.out.gd.bx.z;clear y)
  | (refine wpList_store_mid U 25 _ _ U F.g 0 (gD ((b9 l1 l2).lookM 0*256+(b9 l1 l2).lookM 1)).toArray U U (s.out.gd.bx.there 0 15 (by rw[F.len];omega)) nU (sC _) ?_
     refine Pl.cutL (NG w l1 l2 F (cq l1 l2)) (NG.main s.out) ?_;intro V N;have B:=hid N;have hgv:=N.gd.bx.z;clear N)
  | (refine wpList_load_mid U 41 _ U F.g 0 U (D (cq l1 l2) F.S) _ B.out.gd.row underlying41 U bV ?_)
  | (refine wpList_store_mid U 41 _ _ U w.heap.size 0 (D (cq l1 l2) F.S).toArray U U (B.out.res.there 0 75 (by rw[cy];omega)) bV (fG _ _ B.out.gd.isSl) ?_
     refine Pl.cutL (λX=>Below w.heap.size w X/\Bx X w.heap.size (D (cq l1 l2) F.S)/\bM X F.S (cq l1 l2)) (NG.fin B.out) ?_;rintro X ⟨E,H,I⟩;have P:=hid E;have R:=hid H;have T:=hid I;clear E H I))
 have hl:=pD _ _ R.out.c;refine ao (v:=.agg (D (cq l1 l2) F.S).toArray) ?_ U ⟨F.S,U,T.out,B.out.gd.fit,P.out⟩;simp only[results,results23];simp;exact Pl.res hl
section
variable {F : Gx} {N ob : Nat} {vl vs : Value} {w w1 : World} {s s' : Bst} {ln : List Lin} {sm : List UInt8} {M : Mach}
variable {W W1 : World}
theorem GV.trans{vl' vs':Value}{s':Bst}{ln':List Lin}{sm':List UInt8}{g:World}(h:GV F N ob vl vs w s ln sm W)(h2:GV F N ob vl' vs' W s' ln' sm' g):GV F N ob vl' vs' w s' ln' sm' g :=
 ⟨h2.c,h.b.trans h2.b,λk d=>by
   obtain⟨e,e1,e2⟩:=h.q k d;have f:Kpt N ob W k:=⟨d.n,by obtain⟨cs,t,fr,e3,i⟩:=d.t;exact⟨cs,t,fr,e.trans e3,i⟩,λu a=>by rw[Lib.cell_of_heap h.c.ob 0] at a;cases a;exact e1,λu a=>by rw[Lib.cell_of_heap h.c.ob 1] at a;cases a;exact e2⟩
   obtain⟨g0,g1,j⟩:=h2.q k f;exact⟨g0.trans e,g1,j⟩⟩
end
section
variable {F : Gx} {N ob : Nat} {vl vs v : Value} {w W W1 : World} {inp : List Inp} {k : Cs}
structure GR (F : Gx) (N ob : Nat) (w w0 : World) (k : Cs) (W : World) : Prop where
 g:∃ vl vs,GV F N ob vl vs w0 k.s k.ln k.sm W
 r:RR w (D aE aM) [.slice none 0 0,.slice none 0 0,.slice none 0 0] W
structure GE (F : Gx) (N ob : Nat) (w : World) (k : Cs) (vl vs vw : Value) (L1 L2 : List Value) (Y : World) : Prop where
 r:RR w L1 L2 Y
 gd:Gd F Y k.s.M ⟨k.s.n,k.s.l,vw⟩
 o:Bx Y ob [vl,vs,vw]
 ln:Y.ownsRow N 68 18 vl k.ln.length (jM k.ln)
 sm:Y.ownsRow N 5 1 vs k.sm.length (dW k.sm)
 lo:∀ k,F.all k->F.B<=k
 z:w.heap.size+3<=F.B/\F.B<=N/\N<=ob
theorem GE.s{L1 L2:List Value}{vw:Value}(h:GE F N ob w k vl vs vw L1 L2 W):W.rangeAt F.g 0 (D k.s.M F.S)/\W.rangeAt ob 0 [vl,vs,vw]:=⟨h.gd.row,h.o.c⟩
theorem GE.kept{L1 L2:List Value}{vw:Value}(h:GE F N ob w k vl vs vw L1 L2 W)(hb:Below W.heap.size W W1):GE F N ob w k vl vs vw L1 L2 W1 :=
 ⟨h.r.kept hb,h.gd.kept hb,h.o.kept hb,fF h.ln (λj e=>hb.block j (fZ h.ln j e).2.1),fF h.sm (λj e=>hb.block j (fZ h.sm j e).2.1),h.lo,h.z⟩
theorem GE.puts{L1 L2 a c:List Value}{vw:Value}(h:GE F N ob w k vl vs vw L1 L2 W)(b:Nat)(hb:b<F.B)(L:List Value)(d:RR w a c (W.setCells b 0 L)):GE F N ob w k vl vs vw a c (W.setCells b 0 L):=by
 obtain⟨i,z2,z3⟩:=h.z
 exact⟨d,h.gd.of_same (bA (lU _ _ _ _).symm) (λj _ f=>fO (by have:=h.lo j f;omega) _ _ _) (λj g=>fO (by have:=(fZ h.gd.ws j g).1;omega) _ _ _),DW.bb h.o (by omega),
  fF h.ln (λj e=>fO (by have:=(fZ h.ln j e).1;omega) _ _ _),fF h.sm (λj e=>fO (by have:=(fZ h.sm j e).1;omega) _ _ _),h.lo,h.z⟩
theorem GE.put1{L2:List Value}{vw:Value}(h:GE F N ob w k vl vs vw (D aE aM) L2 W):GE F N ob w k vl vs vw (D k.s.M F.S) L2 (W.setCells (w.heap.size+1) 0 (D k.s.M F.S)):=by
 obtain⟨b,z2,z3⟩:=h.z;have a:=h.r.b1.puts 0 (D k.s.M F.S) (by rw[cy,cy];omega);rw[jJ _ _ (by rw[cy,cy])] at a;exact h.puts _ (by omega) _ ⟨j4 h.r.low (by omega) _ _,a,DW.bb h.r.b2 (by omega)⟩
theorem GE.put2{L1:List Value}{vw x y z:Value}(h:GE F N ob w k vl vs vw L1 [x,y,z] W):GE F N ob w k vl vs vw L1 [vl,vs,vw] (W.setCells (w.heap.size+2) 0 [vl,vs,vw]):=by
 obtain⟨b,z2,z3⟩:=h.z;have a:=h.r.b2.puts 0 [vl,vs,vw] (by simp);rw[jJ _ _ (by simp)] at a;exact h.puts _ (by omega) _ ⟨j4 h.r.low (by omega) _ _,DW.bb h.r.b1 (by omega),a⟩
theorem GE.of{L1 L2:List Value}{vw:Value}{w0:World}(b:GK F N ob)(h:GV F N ob vl vs w0 k.s k.ln k.sm W)(r:RR w L1 L2 W)(p:Gd F W k.s.M ⟨k.s.n,k.s.l,vw⟩)(g:∀ k,F.all k->F.B<=k)(q:w.heap.size+3<=F.B):GE F N ob w k vl vs vw L1 L2 (W.setCell ⟨ob,2,none⟩ vw):=by
 have a:=h.c.ob;have far:∀ j,j≠ob->(W.setCell ⟨ob,2,none⟩ vw).heap[j]?=W.heap[j]?:=λj d=>dy d
 have hB:=b.B;have i:Below F.B W (W.setCell ⟨ob,2,none⟩ vw):=Pl.below (ax hB b.ob) [vw] 2 W ((J W).mono h.c.big);have e:(W.setCell ⟨ob,2,none⟩ vw).heap[ob]?=some (.cells ([vl,vs,vw]:List Value).toArray 47 (0,0)):=py a vw
 refine⟨r.far q i,p.of_same (by simp) (λj _ t=>far j (by have:=b.all j t;have:=b.ob;omega)) (λj d=>far j (λf=>?_)),⟨(ay.1 e).1,λj v d=>(Lib.cell_of_heap e (0+j)).trans (by rw[aN,bw];exact d),λo=>Lib.frozen_of_heap e o⟩,
  fF h.c.ln (λj m=>far j (λf=>?_)),fF h.c.sm (λj m=>far j (λf=>?_)),g,q,hB,b.ob⟩
 ·obtain⟨cs,fr,e2⟩:=p.wty j d
  subst f;rw[a] at e2;simp only[aP,cP] at e2;exact absurd e2.2.1 (by decide)
 ·subst f;exact jN h.c.ln a (by decide) m
 ·subst f;exact jN h.c.sm a (by decide) m
theorem Rk.run(M:Mach)(S:Sl)(v:Value)(n:Nat)(w:World)(hs:bM w S M)(hsz:∀ j,j<5->(M.byt j).length<=140737488355328)(hF:Facts w)(hg:1<w.heap.size/\0<w.heap.size/\2<w.heap.size)(hin:bE w.heap.size w v inp)(hf:M.fit)(hok:∀ x∈inp,x.ok)(hli:inp.length<=40)(hc:chkIn inp M.clock=0)(hn:n<=200000)
 (hm:∀ j,j<n->(Cs.clocks ⟨⟨M,0,[]⟩,inp,[],[]⟩ j).may) :
 Calls prog 16 #[.agg (D M S).toArray,v,.int .i64 n] w λe w'=>∃(F:Gx) (N:Nat) (vl vs vw:Value),e=.returned (.tuple #[.agg (D (Cs.clocks ⟨⟨M,0,[]⟩,inp,[],[]⟩ n).s.M F.S).toArray,.agg #[vl,vs,vw]])/\bM w' F.S (Cs.clocks ⟨⟨M,0,[]⟩,inp,[],[]⟩ n).s.M/\(Cs.clocks ⟨⟨M,0,[]⟩,inp,[],[]⟩ n).s.M.fit /\
  w'.ownsRow N 68 18 vl (Cs.clocks ⟨⟨M,0,[]⟩,inp,[],[]⟩ n).ln.length (jM (Cs.clocks ⟨⟨M,0,[]⟩,inp,[],[]⟩ n).ln)/\w'.ownsRow N 5 1 vs (Cs.clocks ⟨⟨M,0,[]⟩,inp,[],[]⟩ n).sm.length (dW (Cs.clocks ⟨⟨M,0,[]⟩,inp,[],[]⟩ n).sm) /\
  w'.ownsRow F.B 104 3 vw (Cs.clocks ⟨⟨M,0,[]⟩,inp,[],[]⟩ n).s.l.length (kv (Cs.clocks ⟨⟨M,0,[]⟩,inp,[],[]⟩ n).s.l)/\w.heap.size<=F.B/\Below w.heap.size w w':=by
 obtain⟨H,p⟩:∃ H:Cs,H=⟨⟨M,0,[]⟩,inp,[],[]⟩:=⟨_,U⟩
 rw[<- p] at hm ⊢;have HD0:=hid (by rw[p];exact pG.of hc:pG inp H);have HK0:=hid p;have hBm:=Bx.new w (D M S) 41 (b:=w.heap.size) U;have hW:Below w.heap.size w (((w.alloc (.cells (D M S).toArray 41)).alloc (.cells (D aE aM).toArray 41)).alloc (.cells #[.slice none 0 0,.slice none 0 0,.slice none 0 0] 47)):=stA (stA (stA (J w) _) _) _;have HRR:Hid (RR w (D aE aM) [.slice none 0 0,.slice none 0 0,.slice none 0 0] (((w.alloc (.cells (D M S).toArray 41)).alloc (.cells (D aE aM).toArray 41)).alloc (.cells #[.slice none 0 0,.slice none 0 0,.slice none 0 0] 47))) :=
  ⟨hW,(Bx.new (w.alloc (.cells (D M S).toArray 41)) (D aE aM) 41 (b:=w.heap.size+1) (by simp)).over _,Bx.new ((w.alloc (.cells (D M S).toArray 41)).alloc (.cells (D aE aM).toArray 41)) [.slice none 0 0,.slice none 0 0,.slice none 0 0] 47 (b:=w.heap.size+2) (by simp)⟩
 have HBM:=hid ((hBm.over (.cells (D aE aM).toArray 41)).over (.cells #[.slice none 0 0,.slice none 0 0,.slice none 0 0] 47));have HS:=hid (hs.kept hW);have HFX:=hid (hF.kept hW);have HIN:=hid ((hin.kept hW));have HG:=hid hg;have HF:=hid hf;have HSZ:=hid hsz;have HM:=hid hm;have HOK:=hid hok;have HLI:=hid hli;have HN:=hid hn;clear hs hF hin hf hok hc hn hm hBm hW p hg hsz hli;go_enter func16,ntmps16;go_upto_region 3 with(first
  | (refine wpList_load_mid U 41 _ U w.heap.size 0 U (D M S) _ HBM.out.c underlying41 U bV ?_)
  | (go_at_call 8;refine(sL M S _ HS.out HSZ.out).mono ?_;rintro e w1 ⟨S1,rfl,hO,R⟩;have HO:Hid (OwnS (w.heap.size+5) S1 M w1):=hid (by simpa using hO);have HR1:=hid (HRR.out.kept R);have q:=hid R;clear hO R)
  | (refine zcA U 107 0 _ U (.agg (D M S1).toArray) _ U (qu M S1 _) ?_))
 have hB1:w.heap.size+5<=w1.heap.size:=by
  obtain⟨kk,cap,_,_,hBk,hbx,_⟩:=HO.out.own 0 (by omega);have:=hbx.z;omega
 obtain⟨F,T,hFg,hlo,hGK,W⟩:=zvk HO.out HF.out hB1 (HFX.out.kept q.out) (by have:=HG.out;omega) 107;obtain⟨w2,t⟩:∃ w2,w2=((w1.alloc (.cells (D M S1++nf).toArray 107)).alloc (.cells #[.slice none 0 0,.slice none 0 0,.slice none 0 0] 47)):=⟨_,U⟩
 rw[<- t] at W;have X:Below w1.heap.size w1 w2:=by rw[t];exact stA (stA (J w1) _) _
 have HR2:=hid (HR1.out.kept X)
 have HIN2:Hid (bE F.B w2 v inp):=hid (by
  rw[T];exact(((HIN.out.kept (q.out.mono (by simp <;> omega))).kept (X.mono (by omega))).mono (by omega)))
 have HGK:=hid hGK;have HLO:=hid hlo;have HGC:=hid W;have HFB:=hid T;rw[<- hFg] at *;clear hGK W hlo X HBM HRR HS HFX HIN HR1 q HO hB1 T;have HGR0:Hid (GR F (F.g+1) (F.g+1) w w2 H w2):=hid ⟨⟨_,_,GV.start (by rw[HK0.out];exact HGC.out)⟩,HR2.out⟩;have HW2:=hid t;refine Pl.cutW (GR F (F.g+1) (F.g+1) w w2 H) (by rw[<- HW2.out];exact HGR0.out) ?_;intro Y hY;have u:=hid hY;clear hY t HGC HR2 HGR0;have I:w.heap.size+3<=F.B:=by have:=HFB.out;omega
 have HFB3:=hid I;clear I;go_wp2;go_loopw [15] (λi wr=>∃ j:Nat,j<=n/\i=.int .i64 j/\GR F (F.g+1) (F.g+1) w w2 (H.clocks j) wr) (λi _=>n-(intOf i).toNat)
 case atStart=>exact⟨0,aU _,U,u.out⟩
 case round =>
  obtain⟨j,hj,rfl,hX⟩:=hrel;obtain⟨⟨a,d,hG⟩,hR⟩:=hX;have f:=hid hG;have HR:=hid hR;clear u hG hR;by_cases y:j<n
  ·have HLT:=hid y
   have hjl:(j:Int)<n:=by omega
   have hj0:(0:Int)<=j:=by omega
   have hjb:(j:Int)<200000:=by have:=HN.out;omega
   have HNX:=hid (zvj HGK.out f.out.c (HIN2.out.kept f.out.b) HOK.out HLI.out (HD0.out.clocks j) (HM.out j y));go_wp2_with (go_at_call 41;refine HNX.out.mono ?_;rintro e w4 ⟨rfl,vl2,vs2,Z⟩;have HX2:Hid (GR F (F.g+1) (F.g+1) w w2 (H.clocks (j+1)) w4):=hid ⟨⟨vl2,vs2,f.out.trans Z⟩,HR.out.far HFB3.out Z.b⟩;clear Z)
   go_roundw
   case rel=>exact⟨j+1,HLT.out,by go_num,HX2.out⟩
   case measure=>have y:=HLT.out;simp[intOf];omega
  ·have hjn:j=n:=by omega
   subst hjn;have hnl:¬ (j:Int)<j:=by omega
   obtain⟨k,hk⟩:∃ k,k=H.clocks j:=⟨_,U⟩
   rw[<- hk] at f;have m:=hid hk;obtain⟨vw,h⟩:=f.out.c.gd;obtain⟨o,nw,cw,ew0⟩:=mi h.ws;have ew:vw=.slice o nw cw:=ew0;clear ew0;subst ew;have m75:=h.at 75 (.slice o nw cw) U;have o2:=Lib.cell_of_heap f.out.c.ob 2;have of:=λi=>Lib.frozen_of_heap f.out.c.ob i
   have oz:=f.out.c.lt;have gz:=h.bx.z;have HE:=hid (GE.of HGK.out f.out HR.out h HLO.out HFB3.out);have HSI:Hid F.S.isSl:=hid h.isSl;have q:Hid (F.B<=F.g):=hid h.nd.lo.1;clear h hk y;go_upto_region 8 with fail
   refine Pl.cutW (GE F (F.g+1) (F.g+1) w k a d (.slice o nw cw) (D aE aM) [.slice none 0 0,.slice none 0 0,.slice none 0 0]) HE.out ?_;intro Y1 hY1;have u:=hid (hY1.kept (J Y1).drew);clear hY1 HE m75 o2 of oz gz f HR;refine wp_region_held_drew (S:=λw'=>w'.rangeAt F.g 0 (D k.s.M F.S)/\w'.rangeAt (F.g+1) 0 [a,d,.slice o nw cw]) (by kernel_rfl) (u.out.s) ?_;intro hS;refine ee 0 ⟨some 26,_,_,_,_,none⟩ hS ?_;simp only[Act.put,xA,xB,xC];refine ee 1 ⟨some 27,_,_,_,_,none⟩ hS ?_;simp only[Act.put,xA,xB,xC];refine ee 2 ⟨some 28,_,_,_,_,none⟩ hS ?_;simp only[Act.put,xA,xB,xC];refine iq 3 (.agg (D k.s.M F.S).toArray) U (λw' hSw=>kt 41 _ U F.g 0 U (D k.s.M F.S) _ hSw.1 underlying41 U bV) hS ?_;refine iq 4 (.agg ([a,d,.slice o nw cw]:List Value).toArray) U (λw' hSw=>kt 47 _ U (F.g+1) 0 U ([a,d,.slice o nw cw]) _ hSw.2 underlying47 U jK) hS ?_;have E:=hid u.out.put1;refine pE (i:=5) (op:=⟨none,_,_,_,_,none⟩) (by kernel_rfl) U U 41 _ _ U (w.heap.size+1) 0 (D k.s.M F.S).toArray U U (u.out.r.b1.there 0 75 (by rw[cy];omega)) bV (fG _ _ HSI.out) E.out.s ?_
   have HY2:=hid E.out.put2;have hth:=E.out.r.b2.there 0 3 (by simp);obtain⟨al,nl,cl,el⟩:=mi u.out.ln;obtain⟨aS,nS,cS,es⟩:=mi u.out.sm;have L:(([a,d,.slice o nw cw]:List Value)).toArray.all (·.oneCell')=true:=by rw[el,es];simp[Value.oneCell']
   have hss:=HY2.out.s;clear hS;refine pE (i:=6) (op:=⟨none,_,_,_,_,none⟩) (by kernel_rfl) U U 47 _ _ U (w.heap.size+2) 0 #[a,d,.slice o nw cw] U U hth jK L hss ?_;refine wpAnyH_done (by kernel_rfl) ?_ _;refine Pl.cutE (GE F (F.g+1) (F.g+1) w k a d (.slice o nw cw) (D k.s.M F.S) [a,d,.slice o nw cw]) HY2.out ?_;intro V hV;have P:=hid hV;clear hV u E HY2 hth L hss el es;go_wp2;refine ao (v:=.tuple #[.agg (D k.s.M F.S).toArray,.agg #[a,d,.slice o nw cw]]) ?_ U ⟨F,F.g+1,a,d,.slice o nw cw,by rw[<- m.out],by rw[<- m.out];exact P.out.gd.slAt,by rw[<- m.out];exact P.out.gd.fit,by rw[<- m.out];exact P.out.ln,by rw[<- m.out];exact P.out.sm,by rw[<- m.out];exact P.out.gd.ws,by have:=HFB3.out;omega,P.out.r.low⟩;have l1:=run_loadVar_mid V (w.heap.size+1) 0 41 _ _ P.out.r.b1.c underlying41 U bV;have l2:=run_loadVar_mid V (w.heap.size+2) 0 47 _ _ P.out.r.b2.c underlying47 U jK;simp only[results,results16]
   simp;show (Result.andThen (Sem.run prog (loadVar 41 ⟨w.heap.size+1,0,none⟩) V) _)=_;rw[l1];show (Result.andThen (Sem.run prog (loadVar 47 ⟨w.heap.size+2,0,none⟩) V) _)=_;rw[l2];rfl
end
theorem zmk(s:Bst)(h:s.l.length<=1000000):s.stepAux.l.length<=s.l.length+4:=by
 unfold Bst.stepAux;split
 ·omega
 ·have c:=C.fuel_step (m:=bY) (λs a=>ak _) (λs a b=>by
   have:=zir s.M a (b%256);show 1000000001-s.l.length<=1000000001-(s.l++s.M.shA a (b%256)).length+1;rw[aC];omega) s.M.aux s s.M.rung
  have d:1000000001-s.l.length<=1000000001-(C.step bY s.M.aux s s.M.rung).s.l.length+4:=c;show (C.step bY s.M.aux s s.M.rung).s.l.length<=_;omega
theorem zeG(a:Cs)(b:a.ln=[]/\a.sm=[]/\a.s.l=[]):∀ j:Nat,j<=20000->(a.clocks j).ln.length<=j/\(a.clocks j).sm.length<=j/\(a.clocks j).s.l.length<=4*j
 | 0,_=>⟨by show a.ln.length<=0;rw[b.1];simp,by show a.sm.length<=0;rw[b.2.1];simp,by show a.s.l.length<=4*0;rw[b.2.2];simp⟩
 | j+1,f=>by
  obtain⟨d,i2,i3⟩:=zeG a b j (by omega);obtain⟨k,c⟩:∃ k,k=a.clocks j:=⟨_,U⟩
  have e:a.clocks (j+1)=k.clock:=by rw[c];rfl
  rw[<- c] at d i2 i3;rw[e];refine⟨?_,?_,?_⟩
  ·show (k.ln++(k.s.M.pressed k.co).line).length<=_
   have:=zl6 (k.s.M.pressed k.co);rw[aC];omega
  ·show (k.sm++(k.s.M.pressed k.co).sample).length<=_
   have:=zfP (k.s.M.pressed k.co);rw[aC];omega
  ·show ((Bst.stepMain ⟨k.s.M.pressed k.co,k.s.n,k.s.l⟩).stepAux).l.length<=_
   have h1:(Bst.stepMain ⟨k.s.M.pressed k.co,k.s.n,k.s.l⟩).l=k.s.l:=ve _;have h2:=zmk (Bst.stepMain ⟨k.s.M.pressed k.co,k.s.n,k.s.l⟩) (by rw[h1];omega);rw[h1] at h2;omega
structure LawR (w5 : World) (X : Mach) (SX : Sl) (p1 p2 p3 : Value) (ln : List Lin) (sm : List UInt8) (ws : List Wt) (Y : World) : Prop where
 r:R3 w5 X SX [p1,p2,p3] Y
 sx:bM Y SX X
 sh:ShAt Y p1 p2 p3 ln sm ws
section
variable {w w1 Y Y' : World} {b1 : Nat} {M X : Mach} {S S1 SX : Sl} {v p1 p2 p3 : Value} {l : List Inp} {ln : List Lin} {sm : List UInt8} {ws : List Wt}
theorem LawR.kept(h:LawR w1 X SX p1 p2 p3 ln sm ws Y)(hb:Below Y.heap.size Y Y'):LawR w1 X SX p1 p2 p3 ln sm ws Y':=⟨h.r.kept hb,h.sx.kept hb,h.sh.kept hb⟩
theorem qD(V:World):bM V aM aE:=λj a=>by
 have hc:j=0 \/ j=1 \/ j=2 \/ j=3 \/ j=4:=by omega
 rcases hc with rfl|rfl|rfl|rfl|rfl <;> exact Or.inl ⟨none,0,U,U⟩
theorem oE(V:World):ShAt V (.slice none 0 0) (.slice none 0 0) (.slice none 0 0) [] [] []:=⟨⟨U,Or.inl ⟨U,none,0,U⟩⟩,Or.inl ⟨none,0,U,U⟩,⟨U,Or.inl ⟨U,none,0,U⟩⟩⟩
theorem zvl{F:Fx}{N:Nat}{k:Cs}{vln vsm vw:Value}{w:World}(h:Told F N k vln vsm vw w):ShAt w vln vsm vw k.ln k.sm k.s.l:=⟨qA h.ln,zcK h.sm,qA h.ws⟩
end
theorem sW(w:World):Calls prog 13 #[.agg (D aE aM).toArray] w λe w'=>e=.returned (.bool true)/\Below w.heap.size w w':=by
 have d:=hid (Bx.new w (D aE aM) 41 (b:=w.heap.size) U);go_enter func13,ntmps13;go_wp2_with (first
  | (refine wpList_load_mid U 41 _ U w.heap.size 0 U (D aE aM) _ d.out.c underlying41 U bV ?_)
  | (refine zek U 41 U _ (znK _) ?_)
  | (go_at_call 12;refine(oB aE aM aM _ (qD _) (qD _)).mono ?_;rintro e w4 ⟨rfl,a⟩))
 go_ret;exact⟨U,bn (stA (J w) _) a⟩
def pj(M X:Mach)(v:Value)(l:List Inp)(n:Int)(ln:List Lin)(sm:List UInt8)(ws:List Wt):Prop :=
 ∀(S:Sl) (W:World),S.lens M->(∀ j,j<5->(M.byt j).length<=140737488355328)->bM W S M->Facts W->bE W.heap.size W v l->Calls prog 16 #[.agg (D M S).toArray,v,.int .i64 n] W λe w' =>
  ∃(SX:Sl) (a1 a2 a3:Option Addr) (a b c c1 c2 c3:Nat),e=.returned (.tuple #[.agg (D X SX).toArray,.agg #[.slice a1 a c1,.slice a2 b c2,.slice a3 c c3]])/\bM w' SX X/\ShAt w' (.slice a1 a c1) (.slice a2 b c2) (.slice a3 c c3) ln sm ws/\Below W.heap.size W w'
theorem zsf{M:Mach}{v:Value}{l:List Inp}{n:Nat}{K:Cs}(m:K=Cs.clocks ⟨⟨M,0,[]⟩,l,[],[]⟩ n)(h:M.fit)(a:∀ x∈l,x.ok)(hc:chkIn l M.clock=0)(o:n<=20000/\M.clock+n<=200000)(c:M.b.f<=19900):pj M K.s.M v l n K.ln K.sm K.s.l:=λS w _ p q i d=>by
 have g:l.length<=40:=(qB hc).1;refine(Rk.run M S v n w q p i (zse i) d h a g hc (by omega) (λj r=>qU h c o r)).mono ?_;rw[<- m];rintro e w' ⟨F,N,vl,vs,vw,rfl,h1,h2,h3,h4,k,B,t⟩;obtain⟨a1,u,c1,e1⟩:=mi h3;obtain⟨a2,y,c2,e2⟩:=mi h4;obtain⟨a3,z,c3,e3⟩:=mi k;subst e1 e2 e3;exact⟨F.S,a1,a2,a3,u,y,z,c1,c2,c3,U,h1,⟨qA h3,zcK h4,qA k⟩,t⟩
end Go.Proofs.YthghjlinhokimaaGreatDoor
