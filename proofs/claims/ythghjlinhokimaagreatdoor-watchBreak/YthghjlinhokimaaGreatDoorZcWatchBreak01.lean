/-
  Parts of a proof, joined.
-/
import Derived.Test.YthghjlinhokimaaGreatDoorZcA
import Derived.Test.YthghjlinhokimaaGreatDoorZc07
set_option linter.all false
set_option maxRecDepth 100000
namespace Go.Proofs.YthghjlinhokimaaGreatDoor.O
def lowN(k:Nat):Int:=if k=12 \/ k=13 then 0 else -16
def part(b:Bool)(x lo hi:Int):Bool:=if b then decide (lo<=x/\x<=hi) else decide (x=0)
def okB(k:Nat)(d s n w:Int):Bool:=part (hasC k 100) d 0 7 && part (hasC k 115) s 0 7 && part (hasC k 110) n (lowN k) 15 && part (hasC k 119) w 0 65535
def ck(op d s n w:Int):Int:=if isOp op then (if okB op.toNat d s n w then 0 else 3) else 5
def words(op d s n w:Int):List Int:=if hasC op.toNat 119 then [first op d s n,w] else [first op d s n]
theorem mask_w:∀ k,k<32->hasC k 119=decide (mask k/8%2=1):=by decide +kernel
def lo(h:Int)(i:Nat):Int:=if i=2/\(h/4%2=1) /\ ¬ h/16%2=1 then -16 else 0
def hi(h:Int)(i:Nat):Int :=
 if i=0 then (if h%2=1 then 7 else 0) else if i=1 then (if h/2%2=1 then 7 else 0) else
 if i=2 then (if h/4%2=1 \/ h/16%2=1 then 15 else 0) else (if h/8%2=1 then 65535 else 0)
def inR(l u x:Int):Bool:=decide (l<=x) && decide (x<=u)
def inB(h:Int)(i:Nat)(x:Int):Bool:=inR (lo h i) (hi h i) x
theorem inB_all(k:Nat)(b:k<32)(d s n w:Int):(inB (mask k) 0 d && inB (mask k) 1 s && inB (mask k) 2 n && inB (mask k) 3 w)=okB k d s n w:=by
 have h:∀ k,k<32->(lo (mask k) 0=0/\hi (mask k) 0=(if hasC k 100 then 7 else 0))/\(lo (mask k) 1=0/\hi (mask k) 1=(if hasC k 115 then 7 else 0)) /\
  (lo (mask k) 2=(if hasC k 110 then lowN k else 0)/\hi (mask k) 2=(if hasC k 110 then 15 else 0))/\(lo (mask k) 3=0/\hi (mask k) 3=(if hasC k 119 then 65535 else 0)):=by decide +kernel
 obtain⟨⟨a1,a2⟩,⟨b1,b2⟩,⟨c1,c2⟩,⟨d1,d2⟩⟩:=h k b;unfold inB inR okB part;rw[a1,a2,b1,b2,c1,c2,d1,d2];have e:∀(c:Bool) (l u x:Int),(decide ((if c then l else 0)<=x) && decide (x<=if c then u else 0))=if c then decide (l<=x/\x<=u) else decide (x=0):=by
  intro c l u x;cases c
  ·simp only[bK,dt]
   rw[<- ju,cC];omega
  ·simp
 have a:∀(c:Bool) (u x:Int),(decide (0<=x) && decide (x<=if c then u else 0))=if c then decide (0<=x/\x<=u) else decide (x=0):=by
  intro c u x;have:=e c 0 u x
  rwa [show (if c then (0:Int) else 0)=0 by cases c <;> rfl] at this
 rw[e,a,a,a]
theorem part_bd{b:Bool}{x l u:Int}(h:part b x l u=true)(a:l<=0)(c:0<=u):l<=x/\x<=u:=by
 unfold part at h;cases b
 ·have:=cF (by simpa using h:decide (x=0)=true);omega
 ·exact cF (by simpa using h:decide (l<=x/\x<=u)=true)
theorem ok_bd{k:Nat}{d s n w:Int}(h:okB k d s n w=true):(0<=d/\d<=7)/\(0<=s/\s<=7)/\(-16<=n/\n<=15)/\(0<=w/\w<=65535):=by
 unfold okB at h;simp only[dZ] at h;obtain⟨⟨⟨h1,h2⟩,h3⟩,h4⟩:=h;have f:lowN k<=0 /\ -16<=lowN k:=by unfold lowN;split <;> omega
 have a:=part_bd h1 (by omega) (by omega);have b:=part_bd h2 (by omega) (by omega);have c:=part_bd h3 (by omega) (by omega);have e:=part_bd h4 (by omega) (by omega);exact⟨a,b,⟨by omega,by omega⟩,e⟩
/-! ### the first word, laid in bit by bit -/
theorem or_add(a b:Int)(i:Nat)(c:0<=a)(hb:0<=b)(d:b<2 ^ i)(f:a*2 ^ i+b<=65535):bits .or .u16 (a*2 ^ i) b=a*2 ^ i+b:=by
 obtain⟨ai,rfl⟩:=aB c;obtain⟨B,rfl⟩:=aB hb;have e:(ai:Int)*2 ^ i=((ai*2 ^ i:Nat):Int):=by simp
 rw[e] at f ⊢;have hB:B<2 ^ i:=by
  have:((2 ^ i:Nat):Int)=(2:Int) ^ i:=by simp
  omega
 rw[lB _ _ (by omega) (by omega)];have h:ai*2 ^ i ||| B=ai*2 ^ i+B:=by
  have:=im hB ai;rw[eu ai];exact this.symm
 rw[h];omega
theorem first_of(op d s m:Int)(h1:0<=op/\op<=31)(h2:0<=d/\d<=7)(h3:0<=s/\s<=7)(h4:0<=m/\m<=31):bits .or .u16 (bits .or .u16 (bits .or .u16 (op*2048) (d*256)) (s*32)) m=op*2048+d*256+s*32+m:=by
 have a:=or_add op (d*256) 11 (by omega) (by omega) (by simp only[Int.reducePow];omega) (by simp only[Int.reducePow];omega);have b:=or_add (op*8+d) (s*32) 8 (by omega) (by omega) (by simp only[Int.reducePow];omega) (by simp only[Int.reducePow];omega);have c:=or_add (op*64+d*8+s) m 5 (by omega) (by omega) (by simp only[Int.reducePow];omega) (by simp only[Int.reducePow];omega);simp only[Int.reducePow] at a b c;rw[a,show op*2048+d*256=(op*8+d)*256 by omega,b,show (op*8+d)*256+s*32=(op*64+d*8+s)*32 by omega,c]
theorem low5(n:Int)(h:-16<=n/\n<=15):bits .and .u16 (IntKind.u16.wrap n) 31=(n+32)%32:=by
 have e:IntKind.u16.wrap n=n%65536:=bc n;rw[e];have:=M.and_low (n%65536) 5 (by omega) (by omega) (by omega);rw[show (((2 ^ 5-1:Nat):Nat):Int)=31 by rfl] at this;rw[this];simp only[Int.reducePow];omega
/-! ### what was written is read -/
theorem rOp_isOp(a:Int)(b:0<=a/\a<=65535):isOp (rOp a)=true:=by
 rw[isOp_iff];unfold rOp;split <;> omega
theorem read_ok(a b:Int)(e:0<=a/\a<=65535)(hb:0<=b/\b<=65535):okB (rOp a).toNat (rD a) (rS a) (rN a) (rW a b)=true:=by
 unfold okB;simp only[dZ];have c:rk a=(rOp a).toNat:=U;refine⟨⟨⟨?_,?_⟩,?_⟩,?_⟩
 ·unfold part rD;rw[c]
  cases hc:hasC (rOp a).toNat 100
  ·simp
  ·simp;omega
 ·unfold part rS;rw[c]
  cases hc:hasC (rOp a).toNat 115
  ·simp
  ·simp;omega
 ·unfold part rN;rw[c]
  cases hc:hasC (rOp a).toNat 110
  ·simp
  ·simp only[dL]
   unfold nOf lowN;by_cases d:(rOp a).toNat=12 \/ (rOp a).toNat=13
   ·rw[Q d,Q d,aL];omega
   ·rw[G d,G d,aL];split <;> omega
 ·unfold part rW;rw[c]
  cases hc:hasC (rOp a).toNat 119
  ·simp
  ·simp;omega
end Go.Proofs.YthghjlinhokimaaGreatDoor.O
namespace Go.Proofs.YthghjlinhokimaaGreatDoor.S
def reg(s:By):Option Int:=match s with
 | [a,c]=>if a=114/\48<=c.toNat/\c.toNat<=55 then some ((c.toNat:Int)-48) else none
 | _=>none
structure Ord where
 d:Int
 s:Int
 n:Int
 w:Int
def Ord.get(o:Ord)(p:Nat):Int:=if p=0 then o.d else if p=1 then o.s else if p=2 then o.w else o.n
/-! ### a program's listing -/
def partText(o:Ord)(p:Nat):By:=if p=0 \/ p=1 then 114::Lib.itoa (o.get p) else Lib.itoa (o.get p)
def comma:By:=[44,32]
def plain:By:=[46,119,111,114,100]
def orderText(k:Nat)(o:Ord):By:=(K.row k).1++(if parts k=[] then [] else 32::Lib.join ((parts k).map (partText o)) comma)
def wordText(a:Int):By:=plain++32::Lib.itoa a
def word(a b:UInt8):Int:=(a.toNat:Int)*256+b.toNat
def second(r:By):Int:=match r with
 | a::b::_=>word a b
 | _=>0
def rOrd(a b:Int):Ord:=⟨O.rD a,O.rS a,O.rN a,O.rW a b⟩
def isOrder(a:Int)(len:Nat):Bool:=(O.first (O.rOp a) (O.rD a) (O.rS a) (O.rN a) == a) && decide (2*O.rLen a<=len)
def lineOf(a:Int)(len:Nat)(b:Int):By × Nat:=if isOrder a len then (orderText (O.rk a) (rOrd a b),2*(O.rLen a).toNat) else (wordText a,2)
def firstLine(rom:By):By × Nat:=lineOf (second rom) rom.length (second (rom.drop 2))
def listN:Nat->By->By
 | 0,_=>[]
 | f+1,rom=>if rom=[] then [] else (firstLine rom).1++10::listN f (rom.drop (firstLine rom).2)
def list(rom:By):By:=listN rom.length rom
/-! ### what is built of a text -/
end Go.Proofs.YthghjlinhokimaaGreatDoor.S
namespace Go.Proofs.YthghjlinhokimaaGreatDoor.S
/-! ### the first place of a sign -/
/-! ### parts of a line -/
theorem join_cons(p q:By)(ps:List By):Lib.join (p::q::ps) comma=p++44::32::Lib.join (q::ps) comma:=by
 simp[Lib.join,List.intercalate,comma]
theorem join_one(p:By):Lib.join [p] comma=p:=by simp[Lib.join,List.intercalate]
/-! ### numbers -/
theorem dec_small(u:Nat)(h:u<10):Lib.decDigits u=[UInt8.ofNat (48+u)]:=by rw[Lib.decDigits,dif_pos h]
end Go.Proofs.YthghjlinhokimaaGreatDoor.S
namespace Go.Proofs.YthghjlinhokimaaGreatDoor.S
theorem word_bd(a b:UInt8):0<=word a b/\word a b<=65535:=by
 have:=a.toNat_lt;have:=b.toNat_lt;unfold word;omega
theorem second_bd(r:By):0<=second r/\second r<=65535:=by
 unfold second;split
 ·exact word_bd _ _
 ·omega
theorem rLen_or(a:Int):O.rLen a=1 \/ O.rLen a=2:=by unfold O.rLen;split <;> simp
theorem first_size(rom:By):(firstLine rom).2=2 \/ (firstLine rom).2=4:=by
 unfold firstLine lineOf;split
 ·rcases rLen_or (second rom) with h|h <;> rw[h] <;> simp
 ·exact Or.inl U
theorem first_le(rom:By)(h:2<=rom.length):(firstLine rom).2<=rom.length:=by
 unfold firstLine lineOf;cases hi:isOrder (second rom) rom.length with
 | false=>rw[G (by simp)];exact h
 | true =>
  rw[Q U];unfold isOrder at hi;simp only[dZ,bC] at hi;have:=hi.2;show 2*(O.rLen (second rom)).toNat<=rom.length;rcases rLen_or (second rom) with a|a <;> rw[a] at this ⊢ <;> simp at this ⊢ <;> omega
end Go.Proofs.YthghjlinhokimaaGreatDoor.S
namespace Go.Proofs
open Go.Shelf
def Tryz.lays169_ren:Go.Shelf.Ren:=⟨fun|169=>85|n=>n,fun|70=>171|9=>9|0=>0|72=>173|37=>26|127=>256|3=>3|5=>5|n=>n,fun|n=>n⟩
theorem Tryz.lays169:Go.Proofs.Lays.n169 prog Tryz.lays169_ren:={
 mixed:=by kernel_rfl
 f169:=Tryz.func85.trans (congrArg some (by kernel_rfl))
 t0:=underlying0
 a0:=isAgg0
 z0:=sizeOf0
 v0:=zeroValue0
 t3:=underlying3
 a3:=isAgg3
 z3:=sizeOf3
 v3:=zeroValue3
 t9:=underlying9
 a9:=isAgg9
 z9:=sizeOf9
 v9:=zeroValue9
 t37:=underlying26
 a37:=isAgg26
 z37:=sizeOf26
 v37:=zeroValue26
 t70:=underlying171
 a70:=isAgg171
 z70:=sizeOf171
 v70:=zeroValue171
 t72:=underlying173
 a72:=isAgg173
 z72:=sizeOf173
 v72:=zeroValue173
 t127:=underlying256
 a127:=isAgg256
 z127:=sizeOf256
 v127:=zeroValue256 }
theorem Tryz.Builder_Extra_169:Builder.Extra prog Tryz.lays169_ren:={
 sizeBuilder:=by kernel_rfl
 liesBuilder:=by kernel_rfl
 t5:=underlying5
 a5:=isAgg5
 z5:=sizeOf5
 v5:=zeroValue5
 infoByte:=by kernel_rfl
 cellsByte:=by kernel_rfl
 sizeByte:=by kernel_rfl
 neB5:=by decide }
open Go.RowKit in
theorem Tryz.Builder_String_any(B b:Nat)(l:List UInt8)(w:World)(h:Lib.IsBuilder 173 5 B b (Lib.byteCells l) w)(a:B<=w.heap.size):Calls prog 85 #[.pointer (some ⟨b,0,none⟩)] w λe w'=>e=.returned (.string ⟨l.toArray⟩)/\Below B w w':=Any.Builder_String_any Tryz.lays169 Tryz.Builder_Extra_169 B b l w h a
def Tryz.lays156_ren:Go.Shelf.Ren:=⟨fun|156=>339|165=>366|166=>82|169=>85|240=>172|241=>371|276=>232|277=>381|n=>n,fun|31=>251|9=>9|3=>3|4=>4|0=>0|20=>20|72=>173|76=>176|70=>171|37=>26|75=>175|127=>256|164=>300|5=>5|80=>180|n=>n,fun|n=>n⟩
theorem Tryz.lays156:Go.Proofs.Lays.n156 prog Tryz.lays156_ren:={
 mixed:=by kernel_rfl
 f156:=Tryz.func339.trans (congrArg some (by kernel_rfl))
 f165:=Tryz.func366.trans (congrArg some (by kernel_rfl))
 f166:=Tryz.func82.trans (congrArg some (by kernel_rfl))
 f169:=Tryz.func85.trans (congrArg some (by kernel_rfl))
 f240:=Tryz.func172.trans (congrArg some (by kernel_rfl))
 f241:=Tryz.func371.trans (congrArg some (by kernel_rfl))
 f276:=Tryz.func232.trans (congrArg some (by kernel_rfl))
 f277:=Tryz.func381.trans (congrArg some (by kernel_rfl))
 t0:=underlying0
 a0:=isAgg0
 z0:=sizeOf0
 v0:=zeroValue0
 t3:=underlying3
 a3:=isAgg3
 z3:=sizeOf3
 v3:=zeroValue3
 t4:=underlying4
 a4:=isAgg4
 z4:=sizeOf4
 v4:=zeroValue4
 t9:=underlying9
 a9:=isAgg9
 z9:=sizeOf9
 v9:=zeroValue9
 t20:=underlying20
 a20:=isAgg20
 z20:=sizeOf20
 v20:=zeroValue20
 t31:=underlying251
 a31:=isAgg251
 z31:=sizeOf251
 v31:=zeroValue251
 t37:=underlying26
 a37:=isAgg26
 z37:=sizeOf26
 v37:=zeroValue26
 t70:=underlying171
 a70:=isAgg171
 z70:=sizeOf171
 v70:=zeroValue171
 t72:=underlying173
 a72:=isAgg173
 z72:=sizeOf173
 v72:=zeroValue173
 t75:=underlying175
 a75:=isAgg175
 z75:=sizeOf175
 v75:=zeroValue175
 t76:=underlying176
 a76:=isAgg176
 z76:=sizeOf176
 v76:=zeroValue176
 t127:=underlying256
 a127:=isAgg256
 z127:=sizeOf256
 v127:=zeroValue256
 t164:=underlying300
 a164:=isAgg300
 z164:=sizeOf300
 v164:=zeroValue300 }
theorem Tryz.Builder_Extra_156:Builder.Extra prog Tryz.lays156_ren:={
 sizeBuilder:=by kernel_rfl
 liesBuilder:=by kernel_rfl
 t5:=underlying5
 a5:=isAgg5
 z5:=sizeOf5
 v5:=zeroValue5
 infoByte:=by kernel_rfl
 cellsByte:=by kernel_rfl
 sizeByte:=by kernel_rfl
 neB5:=by decide }
open Go.RowKit in
theorem Tryz.strings_Join(bk o c:Nat)(xs:List ByteArray)(a:ByteArray)(w:World)(b:∀(j:Nat) x,xs[j]?=some x->w.cell? ⟨bk,o+j,none⟩=some (.string x))(g:bk<w.heap.size)(h:xs.length<=140737488355328)(d:xs.length<=c)(f:(Lib.join (xs.map (·.data.toList)) a.data.toList).length<=140737488355328):Calls prog 339 #[.slice (some ⟨bk,o,none⟩) xs.length c,.string a] w λe w'=>e=.returned (.string ⟨(Lib.join (xs.map (·.data.toList)) a.data.toList).toArray⟩)/\Below w.heap.size w w':=Any.strings_Join Tryz.lays156 Tryz.Builder_Extra_156 bk o c xs a w b g h d f
end Go.Proofs
