/-
  Parts of a proof, joined.
-/
import Derived.Test.YthghjlinhokimaaGreatDoorZcA
import Derived.Test.YthghjlinhokimaaGreatDoorZc07
set_option linter.all false
set_option maxRecDepth 100000
namespace Go.Proofs.YthghjlinhokimaaGreatDoor.O
def lowN(k:Nat):Int:=if k=12 \/ k=13 then 0 else -16
def part(b:Bool)(x lo hi:Int):Bool:=if b then decide (lo<=x/\x<=hi) else decide (x=0)
def okB(k:Nat)(d s n w:Int):Bool:=part (hasC k 100) d 0 7 && part (hasC k 115) s 0 7 && part (hasC k 110) n (lowN k) 15 && part (hasC k 119) w 0 65535
def ck(op d s n w:Int):Int:=if isOp op then (if okB op.toNat d s n w then 0 else 3) else 5
def words(op d s n w:Int):List Int:=if hasC op.toNat 119 then [first op d s n,w] else [first op d s n]
theorem mask_w:∀ k,k<32->hasC k 119=decide (mask k/8%2=1):=by decide +kernel
def lo(h:Int)(i:Nat):Int:=if i=2/\(h/4%2=1) /\ ¬ h/16%2=1 then -16 else 0
def hi(h:Int)(i:Nat):Int :=
 if i=0 then (if h%2=1 then 7 else 0) else if i=1 then (if h/2%2=1 then 7 else 0) else
 if i=2 then (if h/4%2=1 \/ h/16%2=1 then 15 else 0) else (if h/8%2=1 then 65535 else 0)
def inR(l u x:Int):Bool:=decide (l<=x) && decide (x<=u)
def inB(h:Int)(i:Nat)(x:Int):Bool:=inR (lo h i) (hi h i) x
theorem inB_all(k:Nat)(b:k<32)(d s n w:Int):(inB (mask k) 0 d && inB (mask k) 1 s && inB (mask k) 2 n && inB (mask k) 3 w)=okB k d s n w:=by
 have h:∀ k,k<32->(lo (mask k) 0=0/\hi (mask k) 0=(if hasC k 100 then 7 else 0))/\(lo (mask k) 1=0/\hi (mask k) 1=(if hasC k 115 then 7 else 0)) /\
  (lo (mask k) 2=(if hasC k 110 then lowN k else 0)/\hi (mask k) 2=(if hasC k 110 then 15 else 0))/\(lo (mask k) 3=0/\hi (mask k) 3=(if hasC k 119 then 65535 else 0)):=by decide +kernel
 obtain⟨⟨a1,a2⟩,⟨b1,b2⟩,⟨c1,c2⟩,⟨d1,d2⟩⟩:=h k b;unfold inB inR okB part;rw[a1,a2,b1,b2,c1,c2,d1,d2];have e:∀(c:Bool) (l u x:Int),(decide ((if c then l else 0)<=x) && decide (x<=if c then u else 0))=if c then decide (l<=x/\x<=u) else decide (x=0):=by
  intro c l u x;cases c
  ·simp only[bK,dt]
   rw[<- ju,cC];omega
  ·simp
 have a:∀(c:Bool) (u x:Int),(decide (0<=x) && decide (x<=if c then u else 0))=if c then decide (0<=x/\x<=u) else decide (x=0):=by
  intro c u x;have:=e c 0 u x
  rwa [show (if c then (0:Int) else 0)=0 by cases c <;> rfl] at this
 rw[e,a,a,a]
theorem part_bd{b:Bool}{x l u:Int}(h:part b x l u=true)(a:l<=0)(c:0<=u):l<=x/\x<=u:=by
 unfold part at h;cases b
 ·have:=cF (by simpa using h:decide (x=0)=true);omega
 ·exact cF (by simpa using h:decide (l<=x/\x<=u)=true)
theorem ok_bd{k:Nat}{d s n w:Int}(h:okB k d s n w=true):(0<=d/\d<=7)/\(0<=s/\s<=7)/\(-16<=n/\n<=15)/\(0<=w/\w<=65535):=by
 unfold okB at h;simp only[dZ] at h;obtain⟨⟨⟨h1,h2⟩,h3⟩,h4⟩:=h;have f:lowN k<=0 /\ -16<=lowN k:=by unfold lowN;split <;> omega
 have a:=part_bd h1 (by omega) (by omega);have b:=part_bd h2 (by omega) (by omega);have c:=part_bd h3 (by omega) (by omega);have e:=part_bd h4 (by omega) (by omega);exact⟨a,b,⟨by omega,by omega⟩,e⟩
theorem first_bd{op d s n:Int}(h1:0<=op/\op<=31)(h2:0<=d/\d<=7)(h3:0<=s/\s<=7):0<=first op d s n/\first op d s n<=65535:=by unfold first;omega
/-! ### the first word, laid in bit by bit -/
theorem or_add(a b:Int)(i:Nat)(c:0<=a)(hb:0<=b)(d:b<2 ^ i)(f:a*2 ^ i+b<=65535):bits .or .u16 (a*2 ^ i) b=a*2 ^ i+b:=by
 obtain⟨ai,rfl⟩:=aB c;obtain⟨B,rfl⟩:=aB hb;have e:(ai:Int)*2 ^ i=((ai*2 ^ i:Nat):Int):=by simp
 rw[e] at f ⊢;have hB:B<2 ^ i:=by
  have:((2 ^ i:Nat):Int)=(2:Int) ^ i:=by simp
  omega
 rw[lB _ _ (by omega) (by omega)];have h:ai*2 ^ i ||| B=ai*2 ^ i+B:=by
  have:=im hB ai;rw[eu ai];exact this.symm
 rw[h];omega
theorem first_of(op d s m:Int)(h1:0<=op/\op<=31)(h2:0<=d/\d<=7)(h3:0<=s/\s<=7)(h4:0<=m/\m<=31):bits .or .u16 (bits .or .u16 (bits .or .u16 (op*2048) (d*256)) (s*32)) m=op*2048+d*256+s*32+m:=by
 have a:=or_add op (d*256) 11 (by omega) (by omega) (by simp only[Int.reducePow];omega) (by simp only[Int.reducePow];omega);have b:=or_add (op*8+d) (s*32) 8 (by omega) (by omega) (by simp only[Int.reducePow];omega) (by simp only[Int.reducePow];omega);have c:=or_add (op*64+d*8+s) m 5 (by omega) (by omega) (by simp only[Int.reducePow];omega) (by simp only[Int.reducePow];omega);simp only[Int.reducePow] at a b c;rw[a,show op*2048+d*256=(op*8+d)*256 by omega,b,show (op*8+d)*256+s*32=(op*64+d*8+s)*32 by omega,c]
theorem low5(n:Int)(h:-16<=n/\n<=15):bits .and .u16 (IntKind.u16.wrap n) 31=(n+32)%32:=by
 have e:IntKind.u16.wrap n=n%65536:=bc n;rw[e];have:=M.and_low (n%65536) 5 (by omega) (by omega) (by omega);rw[show (((2 ^ 5-1:Nat):Nat):Int)=31 by rfl] at this;rw[this];simp only[Int.reducePow];omega
/-! ### what was written is read -/
end Go.Proofs.YthghjlinhokimaaGreatDoor.O
namespace Go.Proofs.YthghjlinhokimaaGreatDoor.S
def isDigit(c:UInt8):Bool:=decide (48<=c.toNat) && decide (c.toNat<=57)
def nameCh(c:UInt8):Bool:=isDigit c || c == 95 || (decide (97<=c.toNat) && decide (c.toNat<=122))
def reg(s:By):Option Int:=match s with
 | [a,c]=>if a=114/\48<=c.toNat/\c.toNat<=55 then some ((c.toNat:Int)-48) else none
 | _=>none
def nameOk(s:By):Bool:=match s with
 | []=>false
 | c::r=>decide (s.length<=12) && !isDigit c && s.all nameCh && (reg s).isNone
def num(s:By):Option Int:=match Lib.atoiAll s with
 | .ok v=>if Lib.itoa v=s then some v else none
 | _=>none
def opOf(s:By):Option Nat:=(List.range 32).find? (λk=>k != 30 && (K.row k).1 == s)
structure Ord where
 d:Int
 s:Int
 n:Int
 w:Int
def Ord.set(o:Ord)(p:Nat)(v:Int):Ord:=if p=0 then { o with d:=v } else if p=1 then { o with s:=v } else if p=2 then { o with w:=v } else { o with n:=v }
def Ord.zero:Ord:=⟨0,0,0,0⟩
/-! ### a program's listing -/
def comma:By:=[44,32]
def plain:By:=[46,119,111,114,100]
/-! ### what is built of a text -/
def wordOrName(s:By):Option (Int × By):=if nameOk s then some (0,s) else (num s).map (λv=>(v,[]))
def bytesOf:List Int->By
 | []=>[]
 | a::r=>UInt8.ofNat (a/256).toNat::UInt8.ofNat (a%256).toNat::bytesOf r
def put(ws:List Int)(name:By)(ln:Nat)(st:St):Except Int St :=
 if 1024<st.rom.length+2*ws.length then .error 2 else
 .ok ⟨st.rom++bytesOf ws,st.places,if name=[] then st.uses else st.uses++[(name,st.rom.length+2*ws.length-2,ln)]⟩
def readPlace(name:By)(st:St):Except Int St :=
 if nameOk name then (match st.places.find? (λp=>p.1 == name) with
  | some _=>.error 6
  | none=>.ok { st with places:=st.places++[(name,st.rom.length)] }) else .error 1
def readWord(ps:List By)(ln:Nat)(st:St):Except Int St:=match ps with
 | [p]=>(match wordOrName p with
  | some (v,name)=>if v<0 \/ 65535<v then .error 3 else put [v] name ln st
  | none=>.error 1)
 | _=>.error 4
def readPart(p:Nat)(s:By)(o:Ord)(name:By):Option (Ord × By) :=
 if p=2 then (wordOrName s).map (λx=>(o.set 2 x.1,x.2)) else if p=3 then (num s).map (λv=>(o.set 3 v,name)) else (reg s).map (λv=>(o.set p v,name))
def readParts:List Nat->List By->Ord->By->Option (Ord × By)
 | p::ks,s::a,o,name=>(readPart p s o name).bind (λx=>readParts ks a x.1 x.2)
 | _,_,o,name=>some (o,name)
def readOrder(a:By)(ps:List By)(ln:Nat)(st:St):Except Int St:=match opOf a with
 | none=>.error 5
 | some k=>if ps.length=(parts k).length then (match readParts (parts k) ps Ord.zero [] with
  | none=>.error 1
  | some (o,name)=>if O.ck k o.d o.s o.n o.w=0 then put (O.words k o.d o.s o.n o.w) name ln st else .error (O.ck k o.d o.s o.n o.w)) else .error 4
def partsOf(rest:By):List By:=if rest=[] then [] else Lib.split rest comma
def readLine(l:By)(ln:Nat)(st:St):Except Int St :=
 if Lib.hasSuffix l [58] then readPlace (Lib.trimSuffix l [58]) st else
 if (Lib.cut l [32]).1=plain then readWord (partsOf (Lib.cut l [32]).2.1) ln st else readOrder (Lib.cut l [32]).1 (partsOf (Lib.cut l [32]).2.1) ln st
def readLines:Nat->By->Nat->St->Except (Nat × Int) St
 | 0,_,_,st=>.ok st
 | f+1,s,ln,st=>if s=[] then .ok st else
  if (Lib.cut s [10]).2.2 then (match readLine (Lib.cut s [10]).1 ln st with
   | .ok a=>readLines f (Lib.cut s [10]).2.1 (ln+1) a
   | .error e=>.error (ln,e)) else .error (ln,1)
def lay(places:List (By × Nat)):List (By × Nat × Nat)->By->Except (Nat × Int) By
 | [],rom=>.ok rom
 | u::a,rom=>match places.find? (λp=>p.1 == u.1) with
  | none=>.error (u.2.2,5)
  | some p=>lay places a ((rom.set u.2.1 (UInt8.ofNat (p.2/256))).set (u.2.1+1) (UInt8.ofNat (p.2%256)))
def St.zero:St:=⟨[],[],[]⟩
def readText(s:By):Except (Nat × Int) By:=match readLines s.length s 0 St.zero with
 | .ok st=>lay st.places st.uses st.rom
 | .error e=>.error e
end Go.Proofs.YthghjlinhokimaaGreatDoor.S
namespace Go.Proofs.YthghjlinhokimaaGreatDoor.S
theorem readLines_nil(g ln:Nat)(st:St):readLines g [] ln st=.ok st:=by
 cases g with
 | zero=>rfl
 | succ g=>simp[readLines]
end Go.Proofs.YthghjlinhokimaaGreatDoor.S
namespace Go.Proofs
open Go.Shelf
def Tryz.lays104_ren:Go.Shelf.Ren:=⟨fun|104=>257|211=>323|207=>358|n=>n,fun|9=>9|4=>4|24=>331|3=>3|n=>n,fun|n=>n⟩
theorem Tryz.lays104:Go.Proofs.Lays.n104 prog Tryz.lays104_ren:={
 mixed:=by kernel_rfl
 f104:=Tryz.func257.trans (congrArg some (by kernel_rfl))
 f207:=Tryz.func358.trans (congrArg some (by kernel_rfl))
 f211:=Tryz.func323.trans (congrArg some (by kernel_rfl))
 t3:=underlying3
 a3:=isAgg3
 z3:=sizeOf3
 v3:=zeroValue3
 t4:=underlying4
 a4:=isAgg4
 z4:=sizeOf4
 v4:=zeroValue4
 t9:=underlying9
 a9:=isAgg9
 z9:=sizeOf9
 v9:=zeroValue9
 t24:=underlying331
 a24:=isAgg331
 z24:=sizeOf331
 v24:=zeroValue331 }
open Go.RowKit in
theorem Tryz.strings_CutSuffix(s p:ByteArray)(w:World)(a:s.size<=9223372036854775807):Calls prog 257 #[.string s,.string p] w λe w'=>e=.returned (.tuple #[.string ⟨(Lib.trimSuffix s.data.toList p.data.toList).toArray⟩,.bool (Lib.hasSuffix s.data.toList p.data.toList)])/\w'=w:=Any.strings_CutSuffix Tryz.lays104 s p w a
def Tryz.laysC172_ren:Go.Shelf.Ren:=⟨fun|172=>170|244=>229|245=>230|247=>263|279=>267|280=>268|281=>269|282=>270|287=>333|316=>335|171=>104|205=>336|321=>362|322=>363|243=>177|246=>238|283=>276|284=>277|285=>278|286=>279|129=>341|317=>340|318=>342|319=>343|320=>344|337=>367|338=>368|n=>n,fun|9=>9|3=>3|75=>175|76=>176|4=>4|5=>5|167=>340|37=>26|0=>0|85=>287|2=>2|168=>341|53=>350|175=>385|46=>304|210=>391|127=>256|145=>419|143=>417|21=>21|171=>349|173=>353|212=>397|51=>346|20=>20|213=>398|232=>436|233=>437|80=>180|n=>n,fun|15=>4|16=>5|17=>6|18=>9|19=>10|n=>n⟩
theorem Tryz.laysC172:Go.Proofs.LaysC.n172 prog Tryz.laysC172_ren:={
 mixed:=by kernel_rfl
 f129:=Tryz.func341.trans (congrArg some (by kernel_rfl))
 f171:=Tryz.func104.trans (congrArg some (by kernel_rfl))
 f172:=Tryz.func170.trans (congrArg some (by kernel_rfl))
 f205:=Tryz.func336.trans (congrArg some (by kernel_rfl))
 f243:=Tryz.func177.trans (congrArg some (by kernel_rfl))
 f244:=Tryz.func229.trans (congrArg some (by kernel_rfl))
 f245:=Tryz.func230.trans (congrArg some (by kernel_rfl))
 f246:=Tryz.func238.trans (congrArg some (by kernel_rfl))
 f247:=Tryz.func263.trans (congrArg some (by kernel_rfl))
 f279:=Tryz.func267.trans (congrArg some (by kernel_rfl))
 f280:=Tryz.func268.trans (congrArg some (by kernel_rfl))
 f281:=Tryz.func269.trans (congrArg some (by kernel_rfl))
 f282:=Tryz.func270.trans (congrArg some (by kernel_rfl))
 f283:=Tryz.func276.trans (congrArg some (by kernel_rfl))
 f284:=Tryz.func277.trans (congrArg some (by kernel_rfl))
 f285:=Tryz.func278.trans (congrArg some (by kernel_rfl))
 f286:=Tryz.func279.trans (congrArg some (by kernel_rfl))
 f287:=Tryz.func333.trans (congrArg some (by kernel_rfl))
 f316:=Tryz.func335.trans (congrArg some (by kernel_rfl))
 f317:=Tryz.func340.trans (congrArg some (by kernel_rfl))
 f318:=Tryz.func342.trans (congrArg some (by kernel_rfl))
 f319:=Tryz.func343.trans (congrArg some (by kernel_rfl))
 f320:=Tryz.func344.trans (congrArg some (by kernel_rfl))
 f321:=Tryz.func362.trans (congrArg some (by kernel_rfl))
 f322:=Tryz.func363.trans (congrArg some (by kernel_rfl))
 f337:=Tryz.func367.trans (congrArg some (by kernel_rfl))
 f338:=Tryz.func368.trans (congrArg some (by kernel_rfl))
 t0:=underlying0
 a0:=isAgg0
 z0:=sizeOf0
 v0:=zeroValue0
 t2:=underlying2
 a2:=isAgg2
 z2:=sizeOf2
 v2:=zeroValue2
 t3:=underlying3
 a3:=isAgg3
 z3:=sizeOf3
 v3:=zeroValue3
 t4:=underlying4
 a4:=isAgg4
 z4:=sizeOf4
 v4:=zeroValue4
 t5:=underlying5
 a5:=isAgg5
 z5:=sizeOf5
 v5:=zeroValue5
 t9:=underlying9
 a9:=isAgg9
 z9:=sizeOf9
 v9:=zeroValue9
 t20:=underlying20
 a20:=isAgg20
 z20:=sizeOf20
 v20:=zeroValue20
 t21:=underlying21
 a21:=isAgg21
 z21:=sizeOf21
 v21:=zeroValue21
 t37:=underlying26
 a37:=isAgg26
 z37:=sizeOf26
 v37:=zeroValue26
 t46:=underlying304
 a46:=isAgg304
 z46:=sizeOf304
 v46:=zeroValue304
 t51:=underlying346
 a51:=isAgg346
 z51:=sizeOf346
 v51:=zeroValue346
 t53:=underlying350
 a53:=isAgg350
 z53:=sizeOf350
 v53:=zeroValue350
 t75:=underlying175
 a75:=isAgg175
 z75:=sizeOf175
 v75:=zeroValue175
 t76:=underlying176
 a76:=isAgg176
 z76:=sizeOf176
 v76:=zeroValue176
 t85:=underlying287
 a85:=isAgg287
 z85:=sizeOf287
 v85:=zeroValue287
 t127:=underlying256
 a127:=isAgg256
 z127:=sizeOf256
 v127:=zeroValue256
 t143:=underlying417
 a143:=isAgg417
 z143:=sizeOf417
 v143:=zeroValue417
 t145:=underlying419
 a145:=isAgg419
 z145:=sizeOf419
 v145:=zeroValue419
 t167:=underlying340
 a167:=isAgg340
 z167:=sizeOf340
 v167:=zeroValue340
 t168:=underlying341
 a168:=isAgg341
 z168:=sizeOf341
 v168:=zeroValue341
 t171:=underlying349
 a171:=isAgg349
 z171:=sizeOf349
 v171:=zeroValue349
 t173:=underlying353
 a173:=isAgg353
 z173:=sizeOf353
 v173:=zeroValue353
 t175:=underlying385
 a175:=isAgg385
 z175:=sizeOf385
 v175:=zeroValue385
 t210:=underlying391
 a210:=isAgg391
 z210:=sizeOf391
 v210:=zeroValue391
 t212:=underlying397
 a212:=isAgg397
 z212:=sizeOf397
 v212:=zeroValue397
 t213:=underlying398
 a213:=isAgg398
 z213:=sizeOf398
 t232:=underlying436
 a232:=isAgg436
 z232:=sizeOf436
 v232:=zeroValue436
 t233:=underlying437
 a233:=isAgg437
 z233:=sizeOf437
 v233:=zeroValue437
 g15:=by kernel_rfl
 g16:=by kernel_rfl
 g17:=by kernel_rfl
 g18:=by kernel_rfl
 g19:=by kernel_rfl
 t80:=underlying180
 a80:=isAgg180
 z80:=sizeOf180
 v80:=zeroValue180
 i0:=by kernel_rfl
 i2:=by kernel_rfl
 i3:=by kernel_rfl
 i4:=by kernel_rfl
 i5:=by kernel_rfl
 i9:=by kernel_rfl
 i20:=by kernel_rfl
 i21:=by kernel_rfl
 i37:=by kernel_rfl
 i46:=by kernel_rfl
 i51:=by kernel_rfl
 i53:=by kernel_rfl
 i75:=by kernel_rfl
 i76:=by kernel_rfl
 i80:=by kernel_rfl
 i85:=by kernel_rfl
 i127:=by kernel_rfl
 i143:=by kernel_rfl
 i145:=by kernel_rfl
 i167:=by kernel_rfl
 i168:=by kernel_rfl
 i171:=by kernel_rfl
 i173:=by kernel_rfl
 i175:=by kernel_rfl
 i210:=by kernel_rfl
 i212:=by kernel_rfl
 i232:=by kernel_rfl
 i233:=by kernel_rfl
 m15:=by kernel_rfl
 m16:=by kernel_rfl
 m17:=by kernel_rfl
 m18:=by kernel_rfl
 m19:=by kernel_rfl
 c0:=by kernel_rfl
 c2:=by kernel_rfl
 c3:=by kernel_rfl
 c4:=by kernel_rfl
 c5:=by kernel_rfl
 c9:=by kernel_rfl
 c20:=by kernel_rfl
 c21:=by kernel_rfl
 c37:=by kernel_rfl
 c46:=by kernel_rfl
 c51:=by kernel_rfl
 c53:=by kernel_rfl
 c75:=by kernel_rfl
 c76:=by kernel_rfl
 c80:=by kernel_rfl
 c85:=by kernel_rfl
 c127:=by kernel_rfl
 c143:=by kernel_rfl
 c145:=by kernel_rfl
 c167:=by kernel_rfl
 c168:=by kernel_rfl
 c171:=by kernel_rfl
 c173:=by kernel_rfl
 c175:=by kernel_rfl
 c210:=by kernel_rfl
 c212:=by kernel_rfl
 c213:=by kernel_rfl
 c232:=by kernel_rfl
 c233:=by kernel_rfl }
open Go.RowKit in
theorem Tryz.strconv_Atoi_ok(s:ByteArray)(a:s.size<=9223372036854775806)(v:Int)(h:Lib.atoiAll s.data.toList=.ok v)(w:World):Calls prog 170 #[.string s] w λe w'=>e=.returned (.tuple #[.int .i64 v,.nilIface])/\(w'=w \/ ∃ t,w'=Lib.bytesWorld w 5 t):=Any.strconv_Atoi_ok Tryz.laysC172 s a v h w
def Tryz.lays138_ren:Go.Shelf.Ren:=⟨fun|138=>66|195=>124|218=>125|143=>126|219=>175|217=>234|225=>235|224=>236|267=>237|266=>274|314=>275|n=>n,fun|9=>9|3=>3|4=>4|5=>5|0=>0|46=>304|146=>347|51=>346|n=>n,fun|1=>0|n=>n⟩
theorem Tryz.lays138:Go.Proofs.Lays.n138 prog Tryz.lays138_ren:={
 mixed:=by kernel_rfl
 f138:=Tryz.func66.trans (congrArg some (by kernel_rfl))
 f143:=Tryz.func126.trans (congrArg some (by kernel_rfl))
 f195:=Tryz.func124.trans (congrArg some (by kernel_rfl))
 f217:=Tryz.func234.trans (congrArg some (by kernel_rfl))
 f218:=Tryz.func125.trans (congrArg some (by kernel_rfl))
 f219:=Tryz.func175.trans (congrArg some (by kernel_rfl))
 f224:=Tryz.func236.trans (congrArg some (by kernel_rfl))
 f225:=Tryz.func235.trans (congrArg some (by kernel_rfl))
 f266:=Tryz.func274.trans (congrArg some (by kernel_rfl))
 f267:=Tryz.func237.trans (congrArg some (by kernel_rfl))
 f314:=Tryz.func275.trans (congrArg some (by kernel_rfl))
 t0:=underlying0
 a0:=isAgg0
 z0:=sizeOf0
 v0:=zeroValue0
 t3:=underlying3
 a3:=isAgg3
 z3:=sizeOf3
 v3:=zeroValue3
 t4:=underlying4
 a4:=isAgg4
 z4:=sizeOf4
 v4:=zeroValue4
 t5:=underlying5
 a5:=isAgg5
 z5:=sizeOf5
 v5:=zeroValue5
 t9:=underlying9
 a9:=isAgg9
 z9:=sizeOf9
 v9:=zeroValue9
 t46:=underlying304
 a46:=isAgg304
 z46:=sizeOf304
 v46:=zeroValue304
 t51:=underlying346
 a51:=isAgg346
 z51:=sizeOf346
 v51:=zeroValue346
 t146:=underlying347
 a146:=isAgg347
 z146:=sizeOf347
 v146:=zeroValue347
 g1:=by kernel_rfl }
open Go.RowKit Go.Lib in
theorem Tryz.strings_Count_one(s:ByteArray)(c:UInt8)(w:World):Calls prog 66 #[.string s,.string ⟨#[c]⟩] w λe w'=>e=.returned (.int .i64 (Lib.countByte s.data.toList c))/\w'=w:=Any.strings_Count_one Tryz.lays138 s c w
end Go.Proofs
namespace Go.Proofs.YthghjlinhokimaaGreatDoor
open Go.ChangeShapes Go.WideShapes Go.ChangeAt Go.RowKit Go.Proofs.Tryz
def ii(w:World)(b:Nat)(l:List (ByteArray × Int)):Prop :=
 ∃ es clock,w.heap[b]?=some (.map es clock)/\es.toList.map (λe=>(e.key,e.val))=l.map (λp=>(Value.string p.1,Value.int .i64 p.2))
theorem lX(a b:ByteArray):(a == b)=decide (a=b):=by
 cases h:(a == b)
 ·rw[mq,cR];intro e;rw[(gj a b).2 e] at h;cases h
 ·rw[mq,bC];exact(gj a b).1 h
theorem zpY(op:ByteArray):∀(es:List MapEntry) (l:List (ByteArray × Int)),es.map (λe=>(e.key,e.val))=l.map (λp=>(Value.string p.1,Value.int .i64 p.2))->∀ i:Nat,
 ∃ r,Instr.findNow .string (.string op) es i=some r/\r.map (·.2)=(l.find? (λp=>p.1 == op)).map (λp=>Value.int .i64 p.2)
 | [],[],_,i=>⟨none,U,U⟩
 | [],_::_,h,_=>by cases h
 | _::_,[],h,_=>by cases h
 | e::es,p::l,h,i=>by
  simp only[bP,cN,dD] at h;obtain⟨⟨b,d⟩,h⟩:=h;by_cases c:p.1=op
  ·refine⟨some (i,e.val),?_,?_⟩
   ·simp[Instr.findNow,b,Instr.sameNow,c,lX]
   ·simp[c,d,lX]
  ·obtain⟨r,h1,h2⟩:=zpY op es l h (i+1)
   refine⟨r,?_,?_⟩
   ·have a:(op == p.1)=false:=by rw[lX,cR];exact λe=>c e.symm
    simp[Instr.findNow,b,Instr.sameNow,a,h1]
   ·have a:(p.1 == op)=false:=by rw[lX,cR];exact c
    rw[h2,jx,a]
theorem zji(w:World):ii (w.alloc (.map #[] 0)) w.heap.size []:=⟨#[],0,(fR w _).1,U⟩
theorem ii.lt{w:World}{b:Nat}{l:List (ByteArray × Int)}(h:ii w b l):b<w.heap.size:=by
 obtain⟨es,c,hb,_⟩:=h;exact(ay.1 hb).1
theorem ii.of_block{w w':World}{b:Nat}{l:List (ByteArray × Int)}(h:ii w b l)(e:w'.heap[b]?=w.heap[b]?):ii w' b l:=by
 obtain⟨es,c,hb,a⟩:=h;exact⟨es,c,e.trans hb,a⟩
theorem ii.below{w w':World}{b B:Nat}{l:List (ByteArray × Int)}(h:ii w b l)(hb:Below B w w')(hB:b<B):ii w' b l:=h.of_block (hb.block b hB)
theorem zni{P:Program}{t k e:TypeId}(g:P.underlying t=some (.map k e))(d:P.underlying k=some .string){w:World}{b:Nat}{l:List (ByteArray × Int)}(h:ii w b l)(x:ByteArray)(v:Int)
 (j:l.find? (λp=>p.1 == x)=none):∃ w',(Instr.mapUpdate t (.map (some b)) (.string x) (.int .i64 v)).run P w=.ok () w'/\ii w' b (l++[(x,v)])/\w.grownBy w' (some b):=by
 obtain⟨es,c,hb,f⟩:=h;obtain⟨r,h1,h2⟩:=zpY x es.toList l f 0;have m:r=none:=by
  cases r with
  | none=>rfl
  | some q=>simp[j] at h2
 subst m;have hc:(Instr.checkKey false 10000 k (.string x)).run P w=.ok () w:=cz (k:=.string x) d (by simp[MapKept.IsKey]) false 9999;refine⟨{ w with heap:=w.heap.setIfInBounds b (.map (es.push { key:=.string x,val:=.int .i64 v,born:=c }) (c+1)) },?_,?_,?_⟩
 ·simp[Instr.mapUpdate,bT g,bN hb,hc,bU d h1,eE _ hb,Result.andThen]
 ·exact⟨_,_,(dE hb).1,by simp[f]⟩
 ·exact⟨U,U,U,by simp,λi hi a=>(dE hb).2 i (λe=>a (by rw[e]))⟩
theorem zhT{P:Program}{t k e:TypeId}(f:P.underlying t=some (.map k e))(a:P.underlying k=some .string){w:World}{b:Nat}{l:List (ByteArray × Int)}(h:ii w b l)(x:ByteArray)
 (j:(zeroValue e).run P w=.ok (.int .i64 0) w):(Instr.lookup t (.map (some b)) (.string x) true).run P w =
  .ok (.tuple #[.int .i64 (((l.find? (λp=>p.1 == x)).map (·.2)).getD 0),.bool (l.find? (λp=>p.1 == x)).isSome]) w:=by
 obtain⟨es,c,hb,m⟩:=h;obtain⟨r,h1,h2⟩:=zpY x es.toList l m 0;have hc:∀ d,(Instr.checkKey d 10000 k (.string x)).run P w=.ok () w:=λd=>cz (k:=.string x) a (by simp[MapKept.IsKey]) d 9999
 cases r with
 | none =>
  have n:l.find? (λp=>p.1 == x)=none:=by simpa using h2.symm
  rw[n];simp[Instr.lookup,bT f,bN hb,hc,bU a h1,j,Result.andThen]
 | some q =>
  obtain⟨i,v⟩:=q;cases g:l.find? (λp=>p.1 == x) with
  | none=>simp[g] at h2
  | some y =>
   simp[g] at h2;simp[Instr.lookup,bT f,bN hb,hc,bU a h1,Result.andThen,h2]
theorem zgi{P:Program}(w:World){ops:Array Oper}{rest:List Oper}{o:Oper}{a:Act}{aj:Exit->Act->World->Prop}
 (g:o.guard=none) (m x v:Operand) (t:TypeId) (d:o.op=Op.mapUpdate t m x v) (k e:TypeId) (i:P.underlying t=some (.map k e)) (j:P.underlying k=some .string)
 (b:Nat) (l:List (ByteArray × Int)) (n:a.eval m=.map (some b)) (h:ii w b l) (key:ByteArray) (val:Int) (q:a.eval x=.string key) (r:a.eval v=.int .i64 val) (s:l.find? (λp=>p.1 == key)=none)
 (u:∀ w',ii w' b (l++[(key,val)])->w.grownBy w' (some b)->wpList P ops aj rest (a.put o.dst undef) w'):wpList P ops aj (o::rest) a w:=by
 refine dS g λy f=>?_
 obtain⟨w',c,r1,r2⟩:=zni i j h key val s;unfold Oper.wp;simp[execOp,d,n,q,r,c,Result.andThen];exact f _ _ (u w' r1 r2)
end Go.Proofs.YthghjlinhokimaaGreatDoor
