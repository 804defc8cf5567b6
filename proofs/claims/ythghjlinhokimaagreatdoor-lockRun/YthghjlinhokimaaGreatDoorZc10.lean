/-
  Parts of a proof, joined.
-/
import Derived.Test.YthghjlinhokimaaGreatDoorZcA
import Derived.Test.YthghjlinhokimaaGreatDoorZc07
import Derived.Test.YthghjlinhokimaaGreatDoorZc08
import Derived.Test.YthghjlinhokimaaGreatDoorZc06
set_option linter.all false
set_option maxRecDepth 100000
set_option maxHeartbeats 6400000
namespace Go.Proofs.YthghjlinhokimaaGreatDoor
open Go.ChangeShapes Go.WideShapes Go.ChangeAt Go.RowKit Go.Proofs.Tryz
structure Pd where
 d:Int
 l:Bool
 s:Int
structure Bem where
 l:Int
 a:Int
 g:Bool
 f:Int
structure Mach where
 main:C.Cpu
 aux:C.Cpu
 mrom:List UInt8
 arom:List UInt8
 ram:List UInt8
 own:List UInt8
 video:List UInt8
 p0:Pd
 p1:Pd
 t:TM
 s:Sd
 b:Bem
 fr:Int
 «to»:Int
 granted:Bool
 held:Bool
 m0:Int
 m1:Int
 rung:Bool
 clock:Int
 mready:Int
 aready:Int
structure Wt where
 c:Int
 a:Int
 v:Int
structure Tk where
 n:Int
 l:List Wt
 v:Value
abbrev Tk.zero:Tk:=⟨0,[],.slice none 0 0⟩
abbrev Tk.add(t:Tk)(k:Int):Tk:={ t with n:=t.n+k }
def kv:List Wt->List Value
 | []=>[]
 | x::l=>.int .i64 x.c :: .int .i64 x.a :: .int .u8 x.v::kv l
theorem zlF:∀(l:List Wt) (k:List Wt),kv (l++k)=kv l++kv k
 | [],k=>rfl
 | x::l,k=>by simp only[kv,cQ,zlF l k]
abbrev Tk.app(t:Tk)(l:List Wt)(v:Value):Tk:=⟨t.n,t.l++l,v⟩
theorem Tk.add_zero(t:Tk):t.add 0=t:=by cases t;simp[Tk.add]
theorem Tk.app_nil(t:Tk):t.app [] t.v=t:=by cases t;simp[Tk.app]
structure Pd.ok (p : Pd) : Prop where
 d:0<=p.d/\p.d<=255
 s:0<=p.s/\p.s<=255
def Pd.rd(p:Pd):Int:=et p.l p.d p.s/128
def Pd.next(p:Pd):Pd:=⟨p.d,p.l,et p.l p.s (p.s*2%256+1)⟩
def Pd.wr(p:Pd)(x:Int):Pd:=⟨p.d,cH x,et (cH x) p.d p.s⟩
def TM.put(t:TM)(n:Int):TM:=⟨t.r,et (cH n) t.r t.c,cH n,if cH (n/2) then false else t.g⟩
def jd(l:List UInt8)(i:Int):Int:=((l.getD i.toNat 0).toNat:Int)
def iH(l:List UInt8)(i:Int)(x:Int):List UInt8:=l.set i.toNat (UInt8.ofNat x.toNat)
def nR(w b:Int):Int:=b*256+w%256
def ot(w b:Int):Int:=w/256*256+b
def two(a b:Bool):Int:=(if a then 1 else 0)+(if b then 2 else 0)
def jq(l:List UInt8)(a:Int):Int:=if a<l.length then jd l a else 255
def Mach.lookM(M:Mach)(a:Int):Int:=if a<32768 then jq M.mrom a else if a<49152 then jd M.ram ((a-32768)%128) else if a<53248 then jd M.video ((a-49152)%256) else 255
def Mach.lookA(M:Mach)(a:Int):Int:=if a<32768 then jq M.arom a else if a<49152 then jd M.own ((a-32768)%64) else if a<53248 then (if M.granted then jd M.ram ((a-49152)%128) else 255) else 255
def Mach.portM(M:Mach)(p:Nat):Int × Mach :=
 match p with
 | 0=>(M.p0.rd,{ M with p0:=M.p0.next })
 | 1=>(M.p1.rd,{ M with p1:=M.p1.next })
 | 4=>(two M.t.on M.t.g,M)
 | 6=>(M.b.l,M)
 | 7=>(M.b.a,M)
 | 8=>(two M.b.g false,M)
 | 16=>(two M.granted M.held,M)
 | 17=>(M.m1,M)
 | _=>(255,M)
def Mach.portA(M:Mach)(p:Nat):Int × Mach:=if p=24 then (M.m0,{ M with rung:=false }) else (255,M)
def Mach.xfer(M:Mach):Nat->Mach
 | 0=>M
 | k+1=>{ M.xfer k with video:=iH (M.xfer k).video ((M.to+k)%65536%256) ((M.xfer k).lookM ((M.fr+k)%65536)) }
def dO(hi lo:Int):C.Cpu:={ C.Cpu.zero with PC:=hi*256+lo }
def Mach.grant(M:Mach)(n:Int):Mach:={ M with granted:=cH n,held:=cH (n/2) }
def Mach.letGo(M:Mach)(n:Int):Mach :=
 if M.held && !(cH (n/2)) then { M.grant n with aux:=dO ((M.grant n).lookA 0) ((M.grant n).lookA 1),aready:=M.clock } else M.grant n
def Mach.putM(M:Mach)(p:Nat)(n:Int):Mach :=
 match p with
 | 0=>{ M with p0:=M.p0.wr n,p1:=M.p1.wr n }
 | 2=>{ M with t:={ M.t with r:=nR M.t.r n } }
 | 3=>{ M with t:={ M.t with r:=ot M.t.r n } }
 | 4=>{ M with t:=M.t.put n }
 | 8=>{ M with b:={ M.b with g:=false } }
 | 10=>{ M with fr:=nR M.fr n }
 | 11=>{ M with fr:=ot M.fr n }
 | 12=>{ M with «to»:=nR M.to n }
 | 13=>{ M with «to»:=ot M.to n }
 | 14=>M.xfer n.toNat
 | 16=>M.letGo n
 | 17=>{ M with m0:=n,rung:=true }
 | _=>M
def kU(p:Nat)(n:Int):Int:=if p=14 then 2*n else 0
def Mach.putA(M:Mach)(p:Nat)(n:Int):Mach:=if p<24 then { M with s:=M.s.put p n } else if p=24 then { M with m1:=n } else M
def portNo(a:Int):Nat:=(a%32).toNat
def cu(a:Int):Bool:=decide (53248<=a/\a<=57343)
def Mach.rdM(M:Mach)(a:Int):Int × Mach:=if cu a then M.portM (portNo a) else (M.lookM a,M)
def Mach.rdA(M:Mach)(a:Int):Int × Mach:=if cu a then M.portA (portNo a) else (M.lookA a,M)
def Mach.memM(M:Mach)(a n:Int):Mach:=if a<32768 then M else if a<49152 then { M with ram:=iH M.ram ((a-32768)%128) n } else if a<53248 then { M with video:=iH M.video ((a-49152)%256) n } else M
def Mach.memA(M:Mach)(a n:Int):Mach:=if a<32768 then M else if a<49152 then { M with own:=iH M.own ((a-32768)%64) n } else if a<53248 then (if M.granted then { M with ram:=iH M.ram ((a-49152)%128) n } else M) else M
def Mach.wrM(M:Mach)(a n:Int):Mach:=if cu a then M.putM (portNo a) n else M.memM a n
def Mach.wrA(M:Mach)(a n:Int):Mach:=if cu a then M.putA (portNo a) n else M.memA a n
def shown(c:Int)(p:Nat)(n:Int):List Wt:=if p<24 then [⟨c,p,n⟩] else []
def Mach.shA(M:Mach)(a n:Int):List Wt:=if cu a then shown M.clock (portNo a) n else []
def ia(a n:Int):Int:=if cu a then kU (portNo a) n else 0
/-! ### machines that may be -/
def fu(x:Int):Prop:=0<=x/\x<=65535
def bd8(x:Int):Prop:=0<=x/\x<=255
structure Mach.ok (M : Mach) : Prop where
 main:M.main.ok
 aux:M.aux.ok
 p0:M.p0.ok
 p1:M.p1.ok
 tr:fu M.t.r
 tc:fu M.t.c
 s:M.s.ok
 fr:fu M.fr
 «to»:fu M.to
 m0:bd8 M.m0
 m1:bd8 M.m1
structure BOr (l a f : Int) : Prop where
 l0:0<=l
 l1:l<=9
 a0:0<=a
 a1:a<=63
 f0:0<=f
 f1:f<=20001
structure Mach.fit (M : Mach) : Prop extends M.ok where
 mrom:M.mrom.length<=1024
 arom:M.arom.length<=1024
 ram:M.ram.length=128
 own:M.own.length=64
 video:M.video.length=256
 w:0<=M.s.w/\M.s.w<=15
 b:BOr M.b.l M.b.a M.b.f
 clock:0<=M.clock/\M.clock<=200000
 mready:0<=M.mready/\M.mready<=M.clock+20000
 aready:0<=M.aready/\M.aready<=M.clock+20000
/-! ### cells -/
structure Sl where
 mr:Value
 ar:Value
 ra:Value
 ow:Value
 vi:Value
def bG(c:C.Cpu):List Value:=[.int .u16 (c.r 0),.int .u16 (c.r 1),.int .u16 (c.r 2),.int .u16 (c.r 3),.int .u16 (c.r 4),.int .u16 (c.r 5),.int .u16 (c.r 6),.int .u16 (c.r 7),.int .u16 c.PC,.bool c.Z,.bool c.N,.bool c.C,.bool c.V,.bool c.May,.bool c.Waits]
def sq(S:Sl):List Value:=[S.mr,S.ar,S.ra,S.ow,S.vi]
def oY(M:Mach):List Value:=[.int .u8 M.p0.d,.bool M.p0.l,.int .u8 M.p0.s,.int .u8 M.p1.d,.bool M.p1.l,.int .u8 M.p1.s,.int .u16 M.t.r,.int .u16 M.t.c,.bool M.t.on,.bool M.t.g,
 .int .u16 M.s.a.p,.int .u16 M.s.a.c,.int .u8 M.s.a.l,.bool M.s.a.h,.int .u16 M.s.a.n,.int .u16 M.s.b.p,.int .u16 M.s.b.c,.int .u8 M.s.b.l,.bool M.s.b.h,.int .u16 M.s.b.n,.int .u16 M.s.c.p,.int .u16 M.s.c.c,.int .u8 M.s.c.l,.bool M.s.c.h,.int .u16 M.s.c.n,.int .i64 M.s.w,
 .int .i64 M.b.l,.int .i64 M.b.a,.bool M.b.g,.int .i64 M.b.f,.int .u16 M.fr,.int .u16 M.to,.bool M.granted,.bool M.held,.int .u8 M.m0,.int .u8 M.m1,.bool M.rung,.int .i64 M.clock,.int .i64 M.mready,.int .i64 M.aready]
def D(M:Mach)(S:Sl):List Value:=bG M.main++(bG M.aux++(sq S++oY M))
theorem cy(M:Mach)(S:Sl):(D M S).length=75:=rfl
theorem Bx.same{W w1:World}{b:Nat}{L:List Value}(h:Bx W b L)(a:W.heap.size<=w1.heap.size)(e:w1.heap[b]?=W.heap[b]?):Bx w1 b L :=
 ⟨ap h.z a,λj v d=>(am (w:=W) e).trans (h.c j v d),λo=>(dC (w:=W) e).trans (h.f o)⟩
abbrev pt(g o:Nat):Value:=.pointer (some ⟨g,o,none⟩)
abbrev dX(n g o:Nat):Value:=.func (.func n) #[pt g o] #[]
abbrev cZ(n:Nat)(cs:Array Value):Value:=.func (.func n) #[] cs
def Rw(W:World)(v:Value)(k:Nat)(l:List UInt8):Prop:=(v=.slice none 0 0/\l=[]) \/ ∃ a,v=.slice (some ⟨k,0,none⟩) l.length a/\l.length<=a/\Bx W k (dW l)
theorem Rw.same{W w1:World}{v:Value}{k:Nat}{l:List UInt8}(h:Rw W v k l)(b:W.heap.size<=w1.heap.size)(e:k<W.heap.size->w1.heap[k]?=W.heap[k]?):Rw w1 v k l:=by
 rcases h with h|⟨a,h1,h2,h3⟩
 ·exact Or.inl h
 ·exact Or.inr ⟨a,h1,h2,h3.same b (e h3.z)⟩
theorem Rw.same2{W w1:World}{v:Value}{k:Nat}{l:List UInt8}(h:Rw W v k l)(b:W.heap.size<=w1.heap.size)(e:∀ j,v.ownBlock=some j->j<W.heap.size->w1.heap[j]?=W.heap[j]?):Rw w1 v k l:=by
 rcases h with h|⟨a,h1,h2,h3⟩
 ·exact Or.inl h
 ·exact Or.inr ⟨a,h1,h2,h3.same b (e k (by rw[h1];rfl) h3.z)⟩
theorem Rw.lt{W:World}{v:Value}{k:Nat}{l:List UInt8}(h:Rw W v k l):∀ j,v.ownBlock=some j->j<W.heap.size:=λj e=>by
 rcases h with⟨h,_⟩|⟨a,h1,h2,h3⟩
 ·rw[h] at e;cases e
 ·rw[h1] at e;cases e;exact h3.z
theorem Rw.slice{W:World}{v:Value}{k:Nat}{l:List UInt8}(h:Rw W v k l):sliceAt W v l:=by
 rcases h with⟨rfl,rfl⟩|⟨a,h1,h2,h3⟩
 ·exact Or.inl ⟨none,0,U,U⟩
 ·refine Or.inr ⟨k,0,a,h1,h2,h3.z,λj c b=>?_⟩
  rw[aN];refine h3.at j _ ?_;simp[dW,b]
theorem Rw.some{W:World}{v:Value}{k:Nat}{l:List UInt8}(h:Rw W v k l)(b:0<l.length):∃ a,v=.slice (some ⟨k,0,none⟩) l.length a/\l.length<=a/\Bx W k (dW l):=by
 rcases h with⟨_,rfl⟩|h
 ·simp at b
 ·exact h
theorem zlG(l:List UInt8):(dW l).length=l.length:=by simp[dW]
theorem sr(l:List UInt8)(i:Int):0<=jd l i/\jd l i<=255:=by
 unfold jd;have:=(l.getD i.toNat 0).toNat_lt;omega
theorem qe(l:List UInt8)(i:Int)(a:0<=i)(h:i<l.length):(dW l)[i.toNat]?=some (.int .u8 (jd l i)):=by
 have hi:i.toNat<l.length:=by omega
 simp[dW,jd,List.getD,au hi]
theorem zvJ(l:List UInt8)(i x:Int)(a:0<=x/\x<=255):(dW l).set i.toNat (.int .u8 x)=dW (iH l i x):=by
 unfold dW iH;rw[kB];congr 2;rw[kq];omega
theorem pP(l:List UInt8)(i x:Int):(iH l i x).length=l.length:=by simp[iH]
structure Env where
 mb:Nat
 q0:Nat
 w0:Nat
 q1:Nat
 w1:Nat
 h2:Nat
 h3:Nat
 h10:Nat
 h11:Nat
 h12:Nat
 h13:Nat
 ab:Nat
 sb:Nat->Nat
 sa:Nat->Nat
structure Fx where
 B:Nat
 g:Nat
 mr:Nat
 ar:Nat
 ra:Nat
 ow:Nat
 vi:Nat
 S:Sl
 E:Env
def Fx.T(F:Fx)(x:Nat):Prop:=x=F.g \/ x=F.ra \/ x=F.ow \/ x=F.vi
inductive Fx.has (F : Fx) : Nat -> Value -> Prop
 | mb:F.has F.E.mb (pt F.g 0)
 | q0:F.has F.E.q0 (pt F.g 0)
 | w0:F.has F.E.w0 (.int .i64 0)
 | q1:F.has F.E.q1 (pt F.g 0)
 | w1:F.has F.E.w1 (.int .i64 1)
 | h2:F.has F.E.h2 (pt F.g 41)
 | h3:F.has F.E.h3 (pt F.g 41)
 | h10:F.has F.E.h10 (pt F.g 65)
 | h11:F.has F.E.h11 (pt F.g 65)
 | h12:F.has F.E.h12 (pt F.g 66)
 | h13:F.has F.E.h13 (pt F.g 66)
 | ab:F.has F.E.ab (pt F.g 0)
 | sb (i:Nat) (h:i<24):F.has (F.E.sb i) (pt F.g 0)
 | sa (i:Nat) (h:i<24):F.has (F.E.sa i) (.int .i64 i)
def Fx.rdM(F:Fx)(i:Nat):Value :=
 match i with
 | 0=>cZ 239 #[pt F.E.q0 0,pt F.E.w0 0]
 | 1=>cZ 239 #[pt F.E.q1 0,pt F.E.w1 0]
 | 4=>dX 186 F.g 0
 | 6=>cZ 188 #[pt F.E.mb 0]
 | 7=>cZ 189 #[pt F.E.mb 0]
 | 8=>dX 190 F.g 0
 | 16=>dX 193 F.g 0
 | 17=>cZ 195 #[pt F.E.mb 0]
 | _=>.nilFunc
def Fx.wrM(F:Fx)(i:Nat):Value :=
 match i with
 | 0=>dX 183 F.g 0
 | 2=>cZ 242 #[pt F.E.h2 0]
 | 3=>cZ 243 #[pt F.E.h3 0]
 | 4=>dX 187 F.g 0
 | 8=>dX 191 F.g 0
 | 10=>cZ 242 #[pt F.E.h10 0]
 | 11=>cZ 243 #[pt F.E.h11 0]
 | 12=>cZ 242 #[pt F.E.h12 0]
 | 13=>cZ 243 #[pt F.E.h13 0]
 | 14=>dX 192 F.g 0
 | 16=>dX 194 F.g 0
 | 17=>dX 196 F.g 0
 | _=>.nilFunc
def Fx.rdA(F:Fx)(i:Nat):Value:=if i=24 then dX 197 F.g 0 else .nilFunc
def Fx.wrA(F:Fx)(i:Nat):Value:=if i<24 then cZ 246 #[pt (F.E.sb i) 0,pt (F.E.sa i) 0] else if i=24 then cZ 198 #[pt F.E.ab 0] else .nilFunc
def cT(r w:Nat->Value):Nat->List Value
 | 0=>[]
 | n+1=>cT r w n++[r n,w n]
theorem nb(r w:Nat->Value):∀ n,(cT r w n).length=2*n
 | 0=>rfl
 | n+1=>by rw[cT,aC,nb r w n];simp;omega
theorem zdZ(r w:Nat->Value):∀ n i,i<n->(cT r w n)[2*i]?=some (r i)/\(cT r w n)[2*i+1]?=some (w i)
 | 0,i,h=>by omega
 | n+1,i,h=>by
  rw[cT];by_cases e:i<n
  ·obtain⟨h1,h2⟩:=zdZ r w n i e
   rw[aR (by rw[nb];omega),aR (by rw[nb];omega)];exact⟨h1,h2⟩
  ·obtain rfl:i=n:=by omega
   rw[aO (by rw[nb];omega),aO (by rw[nb];omega),nb];exact⟨by simp,by rw[show 2*i+1-2*i=1 by omega];rfl⟩
def Fx.sideM(F:Fx):List Value:=[pt F.g 30,dX 107 F.g 0]++cT F.rdM F.wrM 32
def Fx.sideA(F:Fx):List Value:=[pt F.g 31,dX 109 F.g 0]++cT F.rdA F.wrA 32
def Fx.cells(F:Fx)(M:Mach)(tk:Tk):List Value:=D M F.S++([.int .i64 tk.n,tk.v]++(F.sideM++F.sideA))
theorem Fx.len(F:Fx)(M:Mach)(tk:Tk):(F.cells M tk).length=209:=by
 unfold Fx.cells Fx.sideM Fx.sideA;simp only[aC,nb,cy];rfl
theorem zu2(ai B C ac:List Value)(a b c n:Nat)(v:Value)(d:ai.length=a)(hB:B.length=b)(e:C.length=c)(h:ac[n]?=some v)(E:List Value):(ai++(B++((C++ac)++E)))[a+b+c+n]?=some v:=by
 have f:=(aA.1 h).1;rw[aO (by omega),aO (by omega),aR (by simp;omega),aO (by omega),<- h];congr 1;omega
theorem zlH(ai B C ac E:List Value)(a b c e n:Nat)(v:Value)(d:ai.length=a)(hB:B.length=b)(f:E.length=e)(g:C.length=c)(h:ac[n]?=some v):(ai++(B++(E++(C++ac))))[a+b+e+c+n]?=some v:=by
 rw[aO (by omega),aO (by omega),aO (by omega),aO (by omega),<- h];congr 1;omega
theorem Fx.portM(F:Fx)(M:Mach)(tk:Tk)(i:Nat)(h:i<32):(F.cells M tk)[79+2*i]?=some (F.rdM i)/\(F.cells M tk)[79+2*i+1]?=some (F.wrM i):=by
 obtain⟨h1,h2⟩:=zdZ F.rdM F.wrM 32 i h;exact⟨zu2 _ _ _ _ 75 2 2 (2*i) _ (cy M F.S) U U h1 F.sideA,zu2 _ _ _ _ 75 2 2 (2*i+1) _ (cy M F.S) U U h2 F.sideA⟩
theorem Fx.portA(F:Fx)(M:Mach)(tk:Tk)(i:Nat)(h:i<32):(F.cells M tk)[145+2*i]?=some (F.rdA i)/\(F.cells M tk)[145+2*i+1]?=some (F.wrA i):=by
 obtain⟨h1,h2⟩:=zdZ F.rdA F.wrA 32 i h;have a:F.sideM.length=66:=by unfold Fx.sideM;rw[aC,nb];rfl
 exact⟨zlH _ _ _ _ F.sideM 75 2 2 66 (2*i) _ (cy M F.S) U a U h1,zlH _ _ _ _ F.sideM 75 2 2 66 (2*i+1) _ (cy M F.S) U a U h2⟩
structure Fx.nd (F : Fx) : Prop where
 lo:F.B<=F.g/\F.B<=F.ra/\F.B<=F.ow/\F.B<=F.vi
 d:F.g≠F.ra/\F.g≠F.ow/\F.g≠F.vi/\F.ra≠F.ow/\F.ra≠F.vi/\F.ow≠F.vi
 mr:¬ F.T F.mr
 ar:¬ F.T F.ar
 env:∀ x v,F.has x v->¬ F.T x
def Fx.off(F:Fx)(k:Nat):Prop:=¬ F.T k/\F.S.mr.ownBlock≠some k/\F.S.ar.ownBlock≠some k /\ ∀ x u,F.has x u->x≠k
structure Bd (F : Fx) (W : World) (M : Mach) (tk : Tk) : Prop where
 bx:Bx W F.g (F.cells M tk)
 mr:Rw W F.S.mr F.mr M.mrom
 ar:Rw W F.S.ar F.ar M.arom
 ra:Rw W F.S.ra F.ra M.ram
 ow:Rw W F.S.ow F.ow M.own
 vi:Rw W F.S.vi F.vi M.video
 env:∀ x v,F.has x v->x<W.heap.size/\W.cell? ⟨x,0,none⟩=some v
 nd:F.nd
 fit:M.fit
 big:F.B<=W.heap.size
 ws:W.ownsRow F.B 104 3 tk.v tk.l.length (kv tk.l)
 wd:∀ k,tk.v.ownBlock=some k->F.off k
theorem fF{w w':World}{B:Nat}{t:TypeId}{z:Nat}{v:Value}{n:Nat}{xs:List Value}(h:w.ownsRow B t z v n xs)(e:∀ k,v.ownBlock=some k->w'.heap[k]?=w.heap[k]?):w'.ownsRow B t z v n xs:=by
 refine⟨h.1,?_⟩;rcases h.2 with h2|⟨g,a,b,rfl,hb,c,r⟩
 ·exact Or.inl h2
 ·exact Or.inr ⟨g,a,b,U,hb,(e g U).trans c,r⟩
section
variable {F : Fx} {W w0 w1 : World} {M M' : Mach} {tk tk' : Tk}
theorem Bd.kept(h:Bd F W M tk)(hb:Below W.heap.size W w1):Bd F w1 M tk :=
 ⟨h.bx.kept hb,h.mr.same hb.size (λa=>hb.block _ a),h.ar.same hb.size (λa=>hb.block _ a),h.ra.same hb.size (λa=>hb.block _ a),h.ow.same hb.size (λa=>hb.block _ a),h.vi.same hb.size (λa=>hb.block _ a),
   λx v b=>⟨ap (h.env x v b).1 hb.size,(hb.cell (p:=⟨x,0,none⟩) (h.env x v b).1).trans (h.env x v b).2⟩,h.nd,h.fit,ax h.big hb.size,fF h.ws (λk a=>hb.block k (h.ws.lt k a).2),h.wd⟩
theorem Bd.over(h:Bd F W M tk)(o:Obj):Bd F (W.alloc o) M tk:=h.kept (stA (J W) o)
theorem Bd.drew(h:Bd F W M tk):Bd F W.drew M tk:=h.kept (J W).drew
theorem Bd.drewN(h:Bd F W M tk)(n:Nat):Bd F (W.drewN n) M tk:=h.kept (Bl.drewN (J W) n)
theorem dy{W:World}{b o x:Nat}{v:Value}(h:x≠b):(W.setCell ⟨b,o,none⟩ v).heap[x]?=W.heap[x]?:=bL _ _ _ _ (λe=>h e)
theorem iF{W:World}{a:Addr}{v:Value}:(W.setCell a v).heap.size=W.heap.size:=by simp[World.setCell]
theorem Bd.put(h:Bd F W M tk)(i:Nat)(v:Value)(hi:i<209)(hc:(F.cells M tk).set i v=F.cells M' tk')(c:M'.mrom=M.mrom/\M'.arom=M.arom/\M'.ram=M.ram/\M'.own=M.own/\M'.video=M.video)(f:M'.fit)(a:tk'.v=tk.v/\tk'.l=tk.l:=by exact⟨U,U⟩):Bd F (W.setCell ⟨F.g,i,none⟩ v) M' tk':=by
 obtain⟨m1,j,m,n,o⟩:=c;obtain⟨d1,d2,d3,_⟩:=h.nd.d;have p:=λe=>h.nd.mr (Or.inl e)
 have q:=λe=>h.nd.ar (Or.inl e)
 refine⟨hc ▸ h.bx.set i v (by rw[F.len];exact hi),?_,?_,?_,?_,?_,λx u b=>?_,h.nd,f,by rw[iF];exact h.big,by rw[a.1,a.2];exact fF h.ws (λk a=>dy (λe=>(h.wd k a).1 (Or.inl e))),by rw[a.1];exact h.wd⟩
 ·rw[m1];exact h.mr.same (by rw[iF];exact ak _) (λ_=>dy p)
 ·rw[j];exact h.ar.same (by rw[iF];exact ak _) (λ_=>dy q)
 ·rw[m];exact h.ra.same (by rw[iF];exact ak _) (λ_=>dy (br d1))
 ·rw[n];exact h.ow.same (by rw[iF];exact ak _) (λ_=>dy (br d2))
 ·rw[o];exact h.vi.same (by rw[iF];exact ak _) (λ_=>dy (br d3))
 ·have r:x≠F.g:=λe=>h.nd.env x u b (Or.inl e)
  obtain⟨e1,e2⟩:=h.env x u b;exact⟨by rw[iF];exact e1,(am (w:=W) (dy r)).trans e2⟩
theorem fO{b x:Nat}(h:x≠b):∀(vs:List Value) (o:Nat) (W:World),(W.setCells b o vs).heap[x]?=W.heap[x]?
 | [],o,W=>rfl
 | v::vs,o,W=>(fO h vs (o+1) _).trans (dy h)
theorem lU(b:Nat):∀(vs:List Value) (o:Nat) (W:World),(W.setCells b o vs).heap.size=W.heap.size
 | [],o,W=>rfl
 | v::vs,o,W=>(lU b vs (o+1) _).trans iF
theorem Bd.puts(h:Bd F W M tk)(i:Nat)(vs:List Value)(hi:i+vs.length<=209)(hc:gN (F.cells M tk) i vs=F.cells M' tk')(f:M'.mrom=M.mrom/\M'.arom=M.arom/\M'.ram=M.ram/\M'.own=M.own/\M'.video=M.video)(j:M'.fit)(b:tk'.v=tk.v/\tk'.l=tk.l:=by exact⟨U,U⟩):Bd F (W.setCells F.g i vs) M' tk':=by
 obtain⟨m1,m,n,o,p⟩:=f;obtain⟨d1,d2,d3,_⟩:=h.nd.d;have q:=λe=>h.nd.mr (Or.inl e)
 have r:=λe=>h.nd.ar (Or.inl e)
 have a:W.heap.size<=(W.setCells F.g i vs).heap.size:=bA (lU _ _ _ _).symm;refine⟨hc ▸ h.bx.puts i vs (by rw[F.len];exact hi),?_,?_,?_,?_,?_,λx u c=>?_,h.nd,j,ax h.big a,by rw[b.1,b.2];exact fF h.ws (λk b=>fO (λe=>(h.wd k b).1 (Or.inl e)) _ _ _),by rw[b.1];exact h.wd⟩
 ·rw[m1];exact h.mr.same a (λ_=>fO q _ _ _)
 ·rw[m];exact h.ar.same a (λ_=>fO r _ _ _)
 ·rw[n];exact h.ra.same a (λ_=>fO (br d1) _ _ _)
 ·rw[o];exact h.ow.same a (λ_=>fO (br d2) _ _ _)
 ·rw[p];exact h.vi.same a (λ_=>fO (br d3) _ _ _)
 ·have s:x≠F.g:=λe=>h.nd.env x u c (Or.inl e)
  obtain⟨e1,e2⟩:=h.env x u c;exact⟨ap e1 a,(am (w:=W) (fO s _ _ _)).trans e2⟩
theorem Rw.put{v:Value}{k:Nat}{l:List UInt8}(h:Rw W v k l)(i x:Int)(c:0<=i)(hi:i<l.length)(b:0<=x/\x<=255):Rw (W.setCell ⟨k,i.toNat,none⟩ (.int .u8 x)) v k (iH l i x):=by
 obtain⟨a,h1,h2,h3⟩:=h.some (by omega);refine Or.inr ⟨a,by rw[pP];exact h1,by rw[pP];exact h2,?_⟩;rw[<- zvJ l i x b];exact h3.set _ _ (by rw[zlG];omega)
theorem Bd.far(h:Bd F W M tk){b o:Nat}{v:Value}(d:b≠F.g)(a:F.T b):Bx (W.setCell ⟨b,o,none⟩ v) F.g (F.cells M tk)/\Rw (W.setCell ⟨b,o,none⟩ v) F.S.mr F.mr M.mrom/\Rw (W.setCell ⟨b,o,none⟩ v) F.S.ar F.ar M.arom /\
 (∀ x u,F.has x u->x<(W.setCell ⟨b,o,none⟩ v).heap.size/\(W.setCell ⟨b,o,none⟩ v).cell? ⟨x,0,none⟩=some u)/\F.B<=(W.setCell ⟨b,o,none⟩ v).heap.size/\(W.setCell ⟨b,o,none⟩ v).ownsRow F.B 104 3 tk.v tk.l.length (kv tk.l):=by
 refine⟨h.bx.far d v,h.mr.same (by rw[iF];exact ak _) (λ_=>dy (λe=>h.nd.mr (by rw[e];exact a))),h.ar.same (by rw[iF];exact ak _) (λ_=>dy (λe=>h.nd.ar (by rw[e];exact a))),λx u c=>?_,by rw[iF];exact h.big,fF h.ws (λk f=>dy (λe=>(h.wd k f).1 (by rw[e];exact a)))⟩;have i:x≠b:=λe=>h.nd.env x u c (by rw[e];exact a)
 obtain⟨e1,e2⟩:=h.env x u c;exact⟨by rw[iF];exact e1,(am (w:=W) (dy i)).trans e2⟩
theorem Bd.putRam(h:Bd F W M tk)(i x:Int)(a:0<=i)(hi:i<128)(c:0<=x/\x<=255):Bd F (W.setCell ⟨F.ra,i.toNat,none⟩ (.int .u8 x)) { M with ram:=iH M.ram i x } tk:=by
 obtain⟨d1,d2,d3,d4,d5,f⟩:=h.nd.d;obtain⟨a1,a2,a3,a4,a5,e⟩:=h.far (b:=F.ra) (o:=i.toNat) (v:=.int .u8 x) (br d1) (Or.inr (Or.inl U))
 exact⟨a1,a2,a3,h.ra.put i x a (by rw[h.fit.ram];exact hi) c,h.ow.same (by rw[iF];exact ak _) (λ_=>dy (br d4)),h.vi.same (by rw[iF];exact ak _) (λ_=>dy (br d5)),a4,h.nd,
  { h.fit with ram:=by rw[pP];exact h.fit.ram,main:=h.fit.main,aux:=h.fit.aux,p0:=h.fit.p0,p1:=h.fit.p1,tr:=h.fit.tr,tc:=h.fit.tc,s:=h.fit.s,fr:=h.fit.fr,«to»:=h.fit.to,m0:=h.fit.m0,m1:=h.fit.m1 },a5,e,h.wd⟩
theorem Bd.putOwn(h:Bd F W M tk)(i x:Int)(a:0<=i)(hi:i<64)(c:0<=x/\x<=255):Bd F (W.setCell ⟨F.ow,i.toNat,none⟩ (.int .u8 x)) { M with own:=iH M.own i x } tk:=by
 obtain⟨d1,d2,d3,d4,d5,e⟩:=h.nd.d;obtain⟨a1,a2,a3,a4,a5,f⟩:=h.far (b:=F.ow) (o:=i.toNat) (v:=.int .u8 x) (br d2) (Or.inr (Or.inr (Or.inl U)))
 exact⟨a1,a2,a3,h.ra.same (by rw[iF];exact ak _) (λ_=>dy d4),h.ow.put i x a (by rw[h.fit.own];exact hi) c,h.vi.same (by rw[iF];exact ak _) (λ_=>dy (br e)),a4,h.nd,
  { h.fit with own:=by rw[pP];exact h.fit.own,main:=h.fit.main,aux:=h.fit.aux,p0:=h.fit.p0,p1:=h.fit.p1,tr:=h.fit.tr,tc:=h.fit.tc,s:=h.fit.s,fr:=h.fit.fr,«to»:=h.fit.to,m0:=h.fit.m0,m1:=h.fit.m1 },a5,f,h.wd⟩
theorem Bd.putVideo(h:Bd F W M tk)(i x:Int)(a:0<=i)(hi:i<256)(c:0<=x/\x<=255):Bd F (W.setCell ⟨F.vi,i.toNat,none⟩ (.int .u8 x)) { M with video:=iH M.video i x } tk:=by
 obtain⟨d1,d2,d3,d4,d5,e⟩:=h.nd.d;obtain⟨a1,a2,a3,a4,a5,f⟩:=h.far (b:=F.vi) (o:=i.toNat) (v:=.int .u8 x) (br d3) (Or.inr (Or.inr (Or.inr U)))
 exact⟨a1,a2,a3,h.ra.same (by rw[iF];exact ak _) (λ_=>dy d5),h.ow.same (by rw[iF];exact ak _) (λ_=>dy e),h.vi.put i x a (by rw[h.fit.video];exact hi) c,a4,h.nd,
  { h.fit with video:=by rw[pP];exact h.fit.video,main:=h.fit.main,aux:=h.fit.aux,p0:=h.fit.p0,p1:=h.fit.p1,tr:=h.fit.tr,tc:=h.fit.tc,s:=h.fit.s,fr:=h.fit.fr,«to»:=h.fit.to,m0:=h.fit.m0,m1:=h.fit.m1 },a5,f,h.wd⟩
abbrev Bt(F:Fx)(W w1:World):Prop:=Mv F.B F.T F.T W w1
theorem Bt.kept(h:Bt F W w0)(a:F.B<=w0.heap.size)(hb:Below w0.heap.size w0 w1):Bt F W w1:=Mv.trans h (Mv.of_below a hb)
theorem Bt.set(a:F.nd)(h:Bt F W w0)(i:Nat)(v:Value):Bt F W (w0.setCell ⟨F.g,i,none⟩ v):=Mv.setCell h a.lo.1 (Or.inl (Or.inl rfl)) v
theorem Bt.setR(a:F.nd)(h:Bt F W w0)(i:Nat)(v:Value):Bt F W (w0.setCell ⟨F.ra,i,none⟩ v):=Mv.setCell h a.lo.2.1 (Or.inl (Or.inr (Or.inl rfl))) v
theorem Bt.setO(a:F.nd)(h:Bt F W w0)(i:Nat)(v:Value):Bt F W (w0.setCell ⟨F.ow,i,none⟩ v):=Mv.setCell h a.lo.2.2.1 (Or.inl (Or.inr (Or.inr (Or.inl rfl)))) v
theorem Bt.setV(a:F.nd)(h:Bt F W w0)(i:Nat)(v:Value):Bt F W (w0.setCell ⟨F.vi,i,none⟩ v):=Mv.setCell h a.lo.2.2.2 (Or.inl (Or.inr (Or.inr (Or.inr rfl)))) v
theorem Bt.sets(a:F.nd):∀(vs:List Value) (i:Nat) (w0:World),Bt F W w0->Bt F W (w0.setCells F.g i vs)
 | [],i,w0,h=>h
 | v::vs,i,w0,h=>Bt.sets a vs (i+1) _ (Bt.set a h i v)
theorem Bt.refl(F:Fx)(W:World):Bt F W W:=Mv.refl _ _ _
def Fx.Tw(F:Fx)(W:World)(k:Nat):Prop:=F.T k \/ ∃ cs fr,W.heap[k]?=some (.cells cs 104 fr)
theorem zql{k:Nat}(e:w1.heap[k]?=W.heap[k]?)(h:F.Tw w1 k):F.Tw W k:=h.imp id (λ⟨cs,fr,x⟩=>⟨cs,fr,e ▸ x⟩)
def Bw(F:Fx)(W w1:World):Prop:=Mv F.B (F.Tw W) (F.Tw w1) W w1
theorem Bt.w(h:Bt F W w1):Bw F W w1:=⟨h.below,λk a b=>h.block k a (λx=>b (Or.inl x)),λk b=>by
 rcases ey k W.heap.size with a|a
 ·by_cases c:F.T k
  ·exact Or.inl (Or.inl c)
  ·exact Or.inl (zql (h.block k a c) b)
 ·exact Or.inr a⟩
theorem Bw.trans{w2:World}(h:Bw F W w1)(k:Bw F w1 w2):Bw F W w2:=Mv.trans h k
theorem Bw.of_below(hB:F.B<=W.heap.size)(hb:Below W.heap.size W w1):Bw F W w1:=Bt.w (Mv.of_below hB hb)
theorem Bw.grown(h:Bd F W M tk)(d:W.grownBy w1 tk.v.ownBlock):Bw F W w1 :=
 have b:∀ k,k<W.heap.size->¬ F.Tw W k->some k≠tk.v.ownBlock:=λk a c e=>c (Or.inr (by
  rcases h.ws.2 with⟨f,_⟩|⟨g,j,l,f,_,m,_⟩
  ·rw[f] at e;cases e
  ·rw[f] at e;cases e;exact⟨_,_,m⟩))
 ⟨(aW F.B W).grown d h.big (λk a=>(h.ws.lt k a).1),λk a c=>d.block k a (b k a c),λk c=>by
   rcases ey k W.heap.size with a|a
   ·by_cases i:F.Tw W k
    ·exact Or.inl i
    ·exact Or.inl (zql (d.block k a (b k a i)) c)
   ·exact Or.inr a⟩
theorem oe{l:List Wt}(h:Bd F w1 M tk)(a:l=[])(b:Bt F W w1):(∃ v,Bd F w1 M (tk.app l v))/\Bw F W w1:=⟨⟨tk.v,by rw[a,Tk.app_nil];exact h⟩,b.w⟩
theorem Bd.at(h:Bd F W M tk)(i:Nat)(v:Value)(e:(F.cells M tk)[i]?=some v):W.cell? ⟨F.g,i,none⟩=some v:=h.bx.at i v e
end
theorem tI(k n b:Nat)(a:Int)(w:World)(d:0<n)(f:n<=1000)(c:0<=a/\a<=65535):Calls prog 181 #[.slice (some ⟨k,0,none⟩) n b,.int .u16 a] w λe w'=>e=.returned (pt k (a%n).toNat)/\w=w':=by
 have g:Int.tmod a n=a%n:=aq c.1;have h:0<=a%n:=gZ _ (by omega);have h1:a%n<n:=fT _ (by omega);have i:((n:Int) == 0)=false:=by simp;omega
 go_enter func181,ntmps181;go_wp2;go_ret;exact⟨U,U⟩
theorem mH(a:Int)(w:World)(b:0<=a/\a<=65535):Calls prog 212 #[.int .u16 a] w λe w'=>e=.returned (.bool (cu a))/\w=w':=by
 unfold cu;by_cases h:53248<=a
 ·by_cases h2:a<=57343
  ·rw[aL ⟨h,h2⟩]
   go_enter func212,ntmps212;go_wp2;go_ret;exact⟨U,U⟩
  ·rw[aF (λx=>h2 x.2)]
   go_enter func212,ntmps212;go_wp2;go_ret;exact⟨U,U⟩
 ·rw[aF (λx=>h x.1)]
  go_enter func212,ntmps212;go_wp2;go_ret;exact⟨U,U⟩
theorem zid(n m:Int)(w:World):Calls prog 179 #[.int .i64 n,.int .i64 m] w λe w'=>e=.returned (.bool (decide (0<=n/\n<=m)))/\w=w':=by
 by_cases h:0<=n
 ·by_cases h2:n<=m
  ·rw[aL ⟨h,h2⟩]
   go_enter func179,ntmps179;go_wp2;go_ret;exact⟨U,U⟩
  ·rw[aF (λx=>h2 x.2)]
   go_enter func179,ntmps179;go_wp2;go_ret;exact⟨U,U⟩
 ·rw[aF (λx=>h x.1)]
  go_enter func179,ntmps179;go_wp2;go_ret;exact⟨U,U⟩
theorem zdz(b:Bool)(n:Int)(w:World):Calls prog 244 #[.bool b,.int .u8 n] w λe w'=>e=.returned (.int .u8 (et b n 0))/\w=w':=by
 cases b;all_goals
  go_enter func244,ntmps244;go_wp2;go_ret;exact⟨U,U⟩
def Fx.memM(F:Fx)(a:Int):Value:=if a<32768 then .pointer none else if a<49152 then pt F.ra ((a-32768)%128).toNat else if a<53248 then pt F.vi ((a-49152)%256).toNat else .pointer none
def Fx.memA(F:Fx)(M:Mach)(a:Int):Value:=if a<32768 then .pointer none else if a<49152 then pt F.ow ((a-32768)%64).toNat else if a<53248 then (if M.granted then pt F.ra ((a-49152)%128).toNat else .pointer none) else .pointer none
section
variable {F : Fx} {W : World} {M : Mach} {tk : Tk}
theorem Bd.ramV(h:Bd F W M tk):∃ a,F.S.ra=.slice (some ⟨F.ra,0,none⟩) 128 a/\W.cell? ⟨F.g,32,none⟩=some (.slice (some ⟨F.ra,0,none⟩) 128 a)/\Bx W F.ra (dW M.ram):=by
 obtain⟨a,h1,_,h3⟩:=h.ra.some (by rw[h.fit.ram];omega);rw[h.fit.ram] at h1;exact⟨a,h1,by rw[<- h1];exact h.at 32 _ U,h3⟩
theorem Bd.ownV(h:Bd F W M tk):∃ a,F.S.ow=.slice (some ⟨F.ow,0,none⟩) 64 a/\W.cell? ⟨F.g,33,none⟩=some (.slice (some ⟨F.ow,0,none⟩) 64 a)/\Bx W F.ow (dW M.own):=by
 obtain⟨a,h1,_,h3⟩:=h.ow.some (by rw[h.fit.own];omega);rw[h.fit.own] at h1;exact⟨a,h1,by rw[<- h1];exact h.at 33 _ U,h3⟩
theorem Bd.viV(h:Bd F W M tk):∃ a,F.S.vi=.slice (some ⟨F.vi,0,none⟩) 256 a/\W.cell? ⟨F.g,34,none⟩=some (.slice (some ⟨F.vi,0,none⟩) 256 a)/\Bx W F.vi (dW M.video):=by
 obtain⟨a,h1,_,h3⟩:=h.vi.some (by rw[h.fit.video];omega);rw[h.fit.video] at h1;exact⟨a,h1,by rw[<- h1];exact h.at 34 _ U,h3⟩
theorem znt(h:Bd F W M tk)(a:Int)(d:0<=a/\a<=65535):Calls prog 107 #[pt F.g 0,.int .u16 a] W λe w'=>e=.returned (F.memM a)/\W=w':=by
 obtain⟨c1,_,e1,_⟩:=h.ramV;obtain⟨c2,_,e2,_⟩:=h.viV;have f:=h.bx.z;clear h;unfold Fx.memM;by_cases h1:a<32768
 ·rw[Q h1]
  have b:¬ 32768<=a:=by omega
  have c:¬ 49152<=a:=by omega
  go_enter func107,ntmps107;go_wp2;go_ret;exact⟨U,U⟩
 ·rw[G h1]
  have b:32768<=a:=by omega
  by_cases h2:a<49152
  ·rw[Q h2]
   go_enter func107,ntmps107;go_wp2_with (go_at_call 181;refine(tI F.ra 128 c1 (a-32768) _ (by omega) (by omega) (by omega)).mono ?_;rintro e w1 ⟨rfl,rfl⟩)
   go_ret;exact⟨U,U⟩
  ·rw[G h2]
   have c:49152<=a:=by omega
   by_cases h3:a<53248
   ·rw[Q h3]
    go_enter func107,ntmps107;go_wp2_with (go_at_call 181;refine(tI F.vi 256 c2 (a-49152) _ (by omega) (by omega) (by omega)).mono ?_;rintro e w1 ⟨rfl,rfl⟩)
    go_ret;exact⟨U,U⟩
   ·rw[G h3]
    go_enter func107,ntmps107;go_wp2;go_ret;exact⟨U,U⟩
theorem znu(h:Bd F W M tk)(a:Int)(f:0<=a/\a<=65535):Calls prog 109 #[pt F.g 0,.int .u16 a] W λe w'=>e=.returned (F.memA M a)/\W=w':=by
 obtain⟨c1,_,e1,_⟩:=h.ramV;obtain⟨c2,_,e2,_⟩:=h.ownV;have i:=h.bx.z;have e3:=h.at 67 (.bool M.granted) U;clear h;unfold Fx.memA;generalize M.granted=b at *;by_cases h1:a<32768
 ·rw[Q h1]
  have c:¬ 32768<=a:=by omega
  have d:¬ 49152<=a:=by omega
  go_enter func109,ntmps109;go_wp2;go_ret;exact⟨U,U⟩
 ·rw[G h1]
  have c:32768<=a:=by omega
  by_cases h2:a<49152
  ·rw[Q h2]
   go_enter func109,ntmps109;go_wp2_with (go_at_call 181;refine(tI F.ow 64 c2 (a-32768) _ (by omega) (by omega) (by omega)).mono ?_;rintro e w1 ⟨rfl,rfl⟩)
   go_ret;exact⟨U,U⟩
  ·rw[G h2]
   have d:49152<=a:=by omega
   by_cases h3:a<53248
   ·rw[Q h3]
    cases b
    ·go_enter func109,ntmps109
     go_wp2;go_ret;exact⟨U,U⟩
    ·go_enter func109,ntmps109
     go_wp2_with (go_at_call 181;refine(tI F.ra 128 c1 (a-49152) _ (by omega) (by omega) (by omega)).mono ?_;rintro e w1 ⟨rfl,rfl⟩)
     go_ret;exact⟨U,U⟩
   ·rw[G h3]
    go_enter func109,ntmps109;go_wp2;go_ret;exact⟨U,U⟩
end
section
variable {F : Fx} {W : World} {M : Mach} {tk : Tk}
theorem Bd.mrV(h:Bd F W M tk):∃ b a,F.S.mr=.slice b M.mrom.length a/\W.cell? ⟨F.g,30,none⟩=some (.slice b M.mrom.length a)/\(0<M.mrom.length->b=some ⟨F.mr,0,none⟩/\Bx W F.mr (dW M.mrom)):=by
 have hc:=h.at 30 F.S.mr U;rcases h.mr with⟨e,c⟩|⟨a,e,_,hb⟩
 ·exact⟨none,0,by rw[e,c];rfl,by rw[hc,e,c];rfl,by rw[c];simp⟩
 ·exact⟨_,a,e,by rw[hc,e],λ_=>⟨U,hb⟩⟩
theorem Bd.arV(h:Bd F W M tk):∃ b a,F.S.ar=.slice b M.arom.length a/\W.cell? ⟨F.g,31,none⟩=some (.slice b M.arom.length a)/\(0<M.arom.length->b=some ⟨F.ar,0,none⟩/\Bx W F.ar (dW M.arom)):=by
 have hc:=h.at 31 F.S.ar U;rcases h.ar with⟨e,c⟩|⟨a,e,_,hb⟩
 ·exact⟨none,0,by rw[e,c];rfl,by rw[hc,e,c];rfl,by rw[c];simp⟩
 ·exact⟨_,a,e,by rw[hc,e],λ_=>⟨U,hb⟩⟩
theorem Bd.ramAt(h:Bd F W M tk)(i:Int)(a:0<=i)(hi:i<128):W.cell? ⟨F.ra,i.toNat,none⟩=some (.int .u8 (jd M.ram i))/\F.ra<W.heap.size/\W.frozen? ⟨F.ra,i.toNat,none⟩=false:=by
 obtain⟨_,_,_,hb⟩:=h.ramV;exact⟨hb.at _ _ (qe _ i a (by rw[h.fit.ram];exact hi)),hb.z,hb.f _⟩
theorem Bd.ownAt(h:Bd F W M tk)(i:Int)(a:0<=i)(hi:i<64):W.cell? ⟨F.ow,i.toNat,none⟩=some (.int .u8 (jd M.own i))/\F.ow<W.heap.size/\W.frozen? ⟨F.ow,i.toNat,none⟩=false:=by
 obtain⟨_,_,_,hb⟩:=h.ownV;exact⟨hb.at _ _ (qe _ i a (by rw[h.fit.own];exact hi)),hb.z,hb.f _⟩
theorem Bd.viAt(h:Bd F W M tk)(i:Int)(a:0<=i)(hi:i<256):W.cell? ⟨F.vi,i.toNat,none⟩=some (.int .u8 (jd M.video i))/\F.vi<W.heap.size/\W.frozen? ⟨F.vi,i.toNat,none⟩=false:=by
 obtain⟨_,_,_,hb⟩:=h.viV;exact⟨hb.at _ _ (qe _ i a (by rw[h.fit.video];exact hi)),hb.z,hb.f _⟩
theorem zfA(h:Bd F W M tk)(a:Int)(d:0<=a/\a<=65535):Calls prog 214 #[pt F.g 77,.int .u16 a] W λe w'=>e=.returned (.int .u8 (M.lookM a))/\W=w':=by
 obtain⟨o,j,_,k,c⟩:=h.mrV;have p:=h.bx.z;have l:=h.at 77 (pt F.g 30) U;have m:=h.at 78 (dX 107 F.g 0) U;have n:=h.fit.mrom;have b:=hid (znt h a d);have H:=hid h;clear h;unfold Mach.lookM jq;unfold Fx.memM at b;by_cases h1:a<32768
 ·rw[Q h1]
  rw[Q h1] at b;by_cases h2:a<M.mrom.length
  ·rw[Q h2]
   obtain⟨rfl,hb⟩:=c (by omega);have f:=hb.at _ _ (qe _ a d.1 h2);have i:=hb.z;clear c;go_enter func214,ntmps214;go_wp2;go_ret;exact⟨U,U⟩
  ·rw[G h2]
   clear c;go_enter func214,ntmps214;go_wp2_with (go_at_call 107;refine b.out.mono ?_;rintro e w1 ⟨rfl,rfl⟩)
   go_ret;exact⟨U,U⟩
 ·rw[G h1]
  rw[G h1] at b;by_cases h2:a<49152
  ·rw[Q h2]
   rw[Q h2] at b;obtain⟨f,i,_⟩:=H.out.ramAt ((a-32768)%128) (by omega) (by omega);clear c;go_enter func214,ntmps214;go_wp2_with (go_at_call 107;refine b.out.mono ?_;rintro e w1 ⟨rfl,rfl⟩)
   go_ret;exact⟨U,U⟩
  ·rw[G h2]
   rw[G h2] at b;by_cases h3:a<53248
   ·rw[Q h3]
    rw[Q h3] at b;obtain⟨f,i,_⟩:=H.out.viAt ((a-49152)%256) (by omega) (by omega);clear c;go_enter func214,ntmps214;go_wp2_with (go_at_call 107;refine b.out.mono ?_;rintro e w1 ⟨rfl,rfl⟩)
    go_ret;exact⟨U,U⟩
   ·rw[G h3]
    rw[G h3] at b;clear c;go_enter func214,ntmps214;go_wp2_with (go_at_call 107;refine b.out.mono ?_;rintro e w1 ⟨rfl,rfl⟩)
    go_ret;exact⟨U,U⟩
end
abbrev pi:Value:=(.agg #[.func (.func 346) #[] #[],.func (.func 348) #[] #[],.func (.func 350) #[] #[],.func (.func 351) #[] #[],.func (.func 352) #[] #[],.func (.func 345) #[] #[],.func (.func 345) #[] #[],.func (.func 345) #[] #[]])
def PortC(k g:Nat):Prop:=∀(v:Vc) (b:Int) (w:World),v.ok->0<=b/\b<=255->Calls prog g #[(.agg #[.int .u16 v.p,.int .u16 v.c,.int .u8 v.l,.bool v.h,.int .u16 v.n]),.int .u8 b] w λe w'=>e=.returned (.agg #[.int .u16 (v.put k b).p,.int .u16 (v.put k b).c,.int .u8 (v.put k b).l,.bool (v.put k b).h,.int .u16 (v.put k b).n])/\Below w.heap.size w w'
theorem ztK(k:Nat)(c:k<8):∃ g:Nat,(∀(a:Array Value) (w:World),(callFunc g a).run prog w=.ok (.enter g a) w)/\(∀ w:World,(Instr.index 357 pi (.int .i64 k)).run prog w=.ok (.func (.func g) #[] #[]) w)/\PortC k g:=by
 have hc:k=0 \/ k=1 \/ k=2 \/ k=3 \/ k=4 \/ k=5 \/ k=6 \/ k=7:=by omega
 rcases hc with rfl|rfl|rfl|rfl|rfl|rfl|rfl|rfl
 ·exact⟨346,λ_ _=>U,λw=>ztz _ _ _ _ _ _ _ _ w,zxi⟩
 ·exact⟨348,λ_ _=>U,λw=>ztA _ _ _ _ _ _ _ _ w,zxj⟩
 ·exact⟨350,λ_ _=>U,λw=>ztB _ _ _ _ _ _ _ _ w,zxk⟩
 ·exact⟨351,λ_ _=>U,λw=>ztC _ _ _ _ _ _ _ _ w,zxl⟩
 ·exact⟨352,λ_ _=>U,λw=>ztD _ _ _ _ _ _ _ _ w,zxm⟩
 ·exact⟨345,λ_ _=>U,λw=>ztE _ _ _ _ _ _ _ _ w,λv b w _ _=>ztH v b w⟩
 ·exact⟨345,λ_ _=>U,λw=>ztF _ _ _ _ _ _ _ _ w,λv b w _ _=>ztI v b w⟩
 ·exact⟨345,λ_ _=>U,λw=>ztG _ _ _ _ _ _ _ _ w,λv b w _ _=>ztJ v b w⟩
theorem zwa(s:Sd)(k:Nat)(b:Int)(w:World)(N:k<24)(h:s.ok)(hb:0<=b/\b<=255):Calls prog 247 #[.agg (iE s).toArray,.int .i64 k,.int .u8 b] w λe w'=>e=.returned (.tuple #[.agg (iE (s.put k b)).toArray,.int .i64 0])/\Below w.heap.size w w':=by
 obtain⟨r,o⟩:∃ r,r=s.put k b:=⟨_,U⟩
 rw[<- o];obtain⟨j,P,p,R⟩:∃ j:Nat,k%8=j/\j<8/\(((k:Int)/8=0/\r=⟨s.a.put j b,s.b,s.c,s.w⟩) \/ ((k:Int)/8=1/\r=⟨s.a,s.b.put j b,s.c,s.w⟩) \/ ((k:Int)/8=2/\r=⟨s.a,s.b,s.c.put j b,s.w⟩)):=by
  refine⟨k%8,U,by omega,?_⟩;by_cases y:k<8
  ·exact Or.inl ⟨by omega,o.trans (Q y)⟩
  ·by_cases hc:k<16
   ·exact Or.inr (Or.inl ⟨by omega,o.trans ((G y).trans (Q hc))⟩)
   ·exact Or.inr (Or.inr ⟨by omega,o.trans ((G y).trans (G hc))⟩)
 obtain⟨g,T,z,q⟩:=ztK j p;unfold pi at z;have m:=hid q;have t:(0:Int)<=(k:Int):=by omega
 have L:(k:Int)<24:=by omega
 have V:(0:Int)<=j:=by omega
 have M:(j:Int)<8:=by omega
 have B:(k:Int)%8=j:=by omega
 have X:Int.tmod (k:Int) 8=j:=by rw[aq t];exact B
 clear q o P p N;rcases R with⟨n,e⟩|⟨n,e⟩|⟨n,e⟩
 all_goals
  have Y:=(aD t (b:=8)).trans n;have Z:=hid e;clear e;go_enter func247,ntmps247;go_upto_region 4 with fail
  go_cut [] (λwx=>SmW w r [] (.slice none 0 0) wx)
  case first =>
   refine Pl.cutW (SmW w s [] (.slice none 0 0)) (SmW.two w s) ?_;intro W u;have HW:=hid u;obtain⟨c0,c1,c2,c3,c4,tz,tf⟩:=u.b.w0;obtain⟨c5,c6,c7,c8,c9,-,-⟩:=u.b.w1;obtain⟨b0,b1,b2,b3,b4,-,-⟩:=u.b.w2;clear u;go_region_with (first
    | (go_at_call 281;refine(zqj _).mono ?_;rintro e w1 ⟨rfl,E⟩;have f:=hid (HW.out.drew.kept E);obtain⟨d0,d1,d2,d3,d4,dz,df⟩:=f.out.b.w0;obtain⟨d5,d6,d7,d8,d9,-,-⟩:=f.out.b.w1;obtain⟨a0,a1,a2,a3,a4,-,-⟩:=f.out.b.w2)
    | ((first|refine(m.out s.a b _ h.a hb).mono ?_|refine(m.out s.b b _ h.b hb).mono ?_|refine(m.out s.c b _ h.c hb).mono ?_);rintro e w2 ⟨rfl,F⟩;have d:=hid (f.out.kept F);obtain⟨e0,e1,e2,e3,e4,ez,ef⟩:=d.out.b.w0;obtain⟨e5,e6,e7,e8,e9,-,-⟩:=d.out.b.w1;obtain⟨f0,f1,f2,f3,f4,-,-⟩:=d.out.b.w2))
   all_goals (go_wp2_with fail;go_meet)
   all_goals (rw[Z.out];first|exact d.out.v0 _|exact d.out.v1 _|exact d.out.v2 _)
  case rest =>
   have x:=hid hcut;clear hcut;go_wp2_with (first
    | (refine wpList_load_mid U 36 _ U w.heap.size 0 U (iE r) _ x.out.b.c underlying36 U kJ ?_)
    | (refine wpList_store_mid U 36 _ _ U (w.heap.size+1) 0 _ U U (j2 x.out.r) kJ (jP _) ?_
       refine Pl.cutL (λW=>Below w.heap.size w W/\Bx W (w.heap.size+1) (iE r)) ⟨?_,?_⟩ ?_
       ·exact Bl.puts x.out.low (ek _) _
       ·exact x.out.r.puts 0 (iE r) (by simp)
       rintro W ⟨i,l⟩;have H:=hid i;have I:=hid l;clear i l))
   have hl:=lx I.out;refine ao (v:=.tuple #[.agg (iE r).toArray,.int .i64 0]) ?_ U ⟨U,H.out⟩;simp only[results,results247];simp;show (Result.andThen (Sem.run prog (loadVar 36 ⟨w.heap.size+1,0,none⟩) W) _)=_;rw[hl];rfl
section
variable {F : Fx} {W : World} {M : Mach} {tk : Tk}
theorem Bd.at2(h:Bd F W M tk)(n:Nat)(v:Value)(e:F.sideA[n]?=some v):W.cell? ⟨F.g,143+n,none⟩=some v:=by
 have a:F.sideM.length=66:=by unfold Fx.sideM;rw[aC,nb];rfl
 exact h.at _ _ (zlH (D M F.S) [.int .i64 tk.n,tk.v] [] F.sideA F.sideM 75 2 0 66 n v (cy M F.S) U a U e)
theorem zjJ(h:Bd F W M tk)(a:Int)(f:0<=a/\a<=65535):Calls prog 214 #[pt F.g 143,.int .u16 a] W λe w'=>e=.returned (.int .u8 (M.lookA a))/\W=w':=by
 obtain⟨p,k,_,l,c⟩:=h.arV;have q:=h.bx.z;have m:=h.at2 0 (pt F.g 31) U;have n:=h.at2 1 (dX 109 F.g 0) U;have o:=h.fit.arom;have b:=hid (znu h a f);have H:=hid h;clear h;unfold Mach.lookA jq;unfold Fx.memA at b;by_cases h1:a<32768
 ·rw[Q h1]
  rw[Q h1] at b;by_cases h2:a<M.arom.length
  ·rw[Q h2]
   obtain⟨rfl,hb⟩:=c (by omega);have i:=hb.at _ _ (qe _ a f.1 h2);have j:=hb.z;clear c;go_enter func214,ntmps214;go_wp2;go_ret;exact⟨U,U⟩
  ·rw[G h2]
   clear c;go_enter func214,ntmps214;go_wp2_with (go_at_call 109;refine b.out.mono ?_;rintro e w1 ⟨rfl,rfl⟩)
   go_ret;exact⟨U,U⟩
 ·rw[G h1]
  rw[G h1] at b;by_cases h2:a<49152
  ·rw[Q h2]
   rw[Q h2] at b;obtain⟨i,j,_⟩:=H.out.ownAt ((a-32768)%64) (by omega) (by omega);clear c;go_enter func214,ntmps214;go_wp2_with (go_at_call 109;refine b.out.mono ?_;rintro e w1 ⟨rfl,rfl⟩)
   go_ret;exact⟨U,U⟩
  ·rw[G h2]
   rw[G h2] at b;by_cases h3:a<53248
   ·rw[Q h3]
    rw[Q h3] at b;obtain⟨i,j,_⟩:=H.out.ramAt ((a-49152)%128) (by omega) (by omega);clear c;cases d:M.granted
    ·rw[d] at b
     go_enter func214,ntmps214;go_wp2_with (go_at_call 109;refine b.out.mono ?_;rintro e w1 ⟨rfl,rfl⟩)
     go_ret;exact⟨U,U⟩
    ·rw[d] at b
     go_enter func214,ntmps214;go_wp2_with (go_at_call 109;refine b.out.mono ?_;rintro e w1 ⟨rfl,rfl⟩)
     go_ret;exact⟨U,U⟩
   ·rw[G h3]
    rw[G h3] at b;clear c;go_enter func214,ntmps214;go_wp2_with (go_at_call 109;refine b.out.mono ?_;rintro e w1 ⟨rfl,rfl⟩)
    go_ret;exact⟨U,U⟩
def vE(F:Fx)(M:Mach)(tk:Tk)(i:Nat):Prop:=∀ W,Bd F W M tk->Calls prog 213 #[.agg #[F.rdM i,F.wrM i]] W λe w'=>e=.returned (.int .u8 (M.portM i).1)/\Bd F w' (M.portM i).2 tk/\Bt F W w'
def vF(F:Fx)(M:Mach)(tk:Tk)(i:Nat):Prop:=∀ W,Bd F W M tk->Calls prog 213 #[.agg #[F.rdA i,F.wrA i]] W λe w'=>e=.returned (.int .u8 (M.portA i).1)/\Bd F w' (M.portA i).2 tk/\Bt F W w'
def vG(F:Fx)(M:Mach)(tk:Tk)(i:Nat)(n:Int):Prop:=∀ W,Bd F W M tk->Calls prog 215 #[.agg #[F.rdM i,F.wrM i],.int .u8 n] W λe w'=>e=.returned (.tuple #[])/\Bd F w' (M.putM i n) (tk.add (kU i n))/\Bt F W w'
def vH(F:Fx)(M:Mach)(tk:Tk)(i:Nat)(n:Int):Prop:=∀ W,Bd F W M tk->Calls prog 215 #[.agg #[F.rdA i,F.wrA i],.int .u8 n] W λe w'=>e=.returned (.tuple #[])/\(∃ v,Bd F w' (M.putA i n) (tk.app (shown M.clock i n) v))/\Bw F W w'
theorem Bd.pM(h:Bd F W M tk)(i:Nat)(hi:i<32):W.cell? ⟨F.g,79+i*2,none⟩=some (F.rdM i)/\W.cell? ⟨F.g,79+i*2+1,none⟩=some (F.wrM i):=by
 obtain⟨h1,h2⟩:=F.portM M tk i hi;rw[eu i 2];exact⟨h.at _ _ h1,h.at _ _ h2⟩
theorem Bd.pA(h:Bd F W M tk)(i:Nat)(hi:i<32):W.cell? ⟨F.g,145+i*2,none⟩=some (F.rdA i)/\W.cell? ⟨F.g,145+i*2+1,none⟩=some (F.wrA i):=by
 obtain⟨h1,h2⟩:=F.portA M tk i hi;rw[eu i 2];exact⟨h.at _ _ h1,h.at _ _ h2⟩
theorem zqS(h:Bd F W M tk)(a:Int)(d:0<=a/\a<=65535)(hp:∀ i,i<32->vE F M tk i):Calls prog 132 #[pt F.g 77,.int .u16 a] W λe w'=>e=.returned (.int .u8 (M.rdM a).1)/\Bd F w' (M.rdM a).2 tk/\Bt F W w':=by
 unfold Mach.rdM;cases f:cu a
 ·have m:=hid (zfA h a d)
  have b:=hid f;have H:=hid h;clear h f hp;go_enter func132,ntmps132;go_wp2_with (first
   | (go_at_call 212;refine(mH a _ d).mono ?_;rw[b.out];rintro e w1 ⟨rfl,rfl⟩)
   | (go_at_call 214;refine m.out.mono ?_;rintro e w1 ⟨rfl,rfl⟩))
  go_ret;exact⟨U,H.out,Bt.refl _ _⟩
 ·obtain⟨n,o⟩:∃ n:Nat,a%32=n:=⟨(a%32).toNat,by omega⟩
  have c:n<32:=by omega
  have r:Int.tmod a 32=n:=by rw[aq d.1,o]
  have p:=hid (hp n c W h);have b:=hid f;have l:portNo a=n:=by unfold portNo;omega
  rw[l];obtain⟨c0,c1⟩:=h.pM n c;have s:=h.bx.z;have q:(n:Int)<32:=by omega
  clear h f hp l;generalize F.rdM n=t at *;generalize F.wrM n=vw at *;go_enter func132,ntmps132;go_wp2_with (first
   | (go_at_call 212;refine(mH a _ d).mono ?_;rw[b.out];rintro e w1 ⟨rfl,rfl⟩)
   | (go_at_call 213;refine p.out.mono ?_;rintro e w1 ⟨rfl,j,k⟩))
  go_ret;exact⟨U,j,k⟩
end
section
variable {F : Fx} {W : World} {M M' : Mach} {tk : Tk}
theorem Mach.fit.of{M M':Mach}(h:M.fit)(c:M'.ok)(d:M'.mrom=M.mrom/\M'.arom=M.arom/\M'.ram.length=M.ram.length/\M'.own.length=M.own.length/\M'.video.length=M.video.length)(g:M'.s.w=M.s.w)(hb:M'.b.l=M.b.l/\M'.b.a=M.b.a/\M'.b.f=M.b.f)(hc:M'.clock=M.clock/\M'.mready=M.mready)(i:M'.aready=M.aready \/ M'.aready=M.clock):M'.fit:=by
 obtain⟨l1,l2,l3,j,k⟩:=d;obtain⟨b1,b2,b3⟩:=hb;obtain⟨c1,c2⟩:=hc;refine⟨c,?_,?_,?_,?_,?_,?_,?_,?_,?_,?_⟩
 ·rw[l1];exact h.mrom
 ·rw[l2];exact h.arom
 ·rw[l3];exact h.ram
 ·rw[j];exact h.own
 ·rw[k];exact h.video
 ·rw[g];exact h.w
 ·rw[b1,b2,b3];exact h.b
 ·rw[c1];exact h.clock
 ·rw[c1,c2];exact h.mready
 ·rw[c1]
  have:=h.clock;rcases i with e|e
  ·rw[e];exact h.aready
  ·rw[e];omega
theorem sw{w b:Int}(a:fu w)(hb:0<=b/\b<=255):fu (nR w b):=by unfold fu nR at *;omega
theorem sy{w b:Int}(a:fu w)(hb:0<=b/\b<=255):fu (ot w b):=by unfold fu ot at *;omega
theorem tJ{W:World}{b o x i:Nat}{v u:Value}(a:x≠b)(h:W.cell? ⟨x,i,none⟩=some u):(W.setCell ⟨b,o,none⟩ v).drew.cell? ⟨x,i,none⟩=some u:=(am (w:=W) (dy (o:=o) (v:=v) a)).trans h
theorem zfB(h:Bd F W M tk)(x o:Nat)(a n:Int)(d:F.has x (pt F.g o))(hc:(F.cells M tk)[o]?=some (.int .u16 a))(b:fu a)(k:0<=n/\n<=255)(l:o<209)
 (i:(F.cells M tk).set o (.int .u16 (nR a n))=F.cells M' tk) (j:M'.mrom=M.mrom/\M'.arom=M.arom/\M'.ram=M.ram/\M'.own=M.own/\M'.video=M.video) (m:M'.fit) :
 Calls prog 242 #[.int .u8 n,pt x 0] W λe w'=>e=.returned (.tuple #[])/\Bd F w' M' tk/\Bt F W w':=by
 have c1:=h.at o _ hc;have f1:=h.bx.f o;have r:=h.bx.z;obtain⟨s,e1⟩:=h.env _ _ d;have c:x≠F.g:=λe=>h.nd.env _ _ d (Or.inl e)
 have H:=hid h;have p:=hid i;have q:=hid j;clear h i j;go_enter func242,ntmps242;go_wp2_with (go_at_call 209;refine(zcy a _ b).mono ?_;rintro e w1 ⟨rfl,rfl⟩)
 go_region_held3 (λw'=>w'.cell? ⟨x,0,none⟩=some (pt F.g o))
  ((first|(with_reducible exact tJ c e1)|(go_keep;done)))
  ((go_at_call 211;refine(tx n (a%256) _ k (by omega)).mono ?_;rintro e w1 ⟨rfl,rfl⟩))
 go_wp2;go_end0;exact⟨U,(H.out.put o _ l p.out q.out m).drew,((Bt.refl _ _).set H.out.nd _ _).drew⟩
theorem zie(h:Bd F W M tk)(x o:Nat)(a n:Int)(d:F.has x (pt F.g o))(hc:(F.cells M tk)[o]?=some (.int .u16 a))(b:fu a)(k:0<=n/\n<=255)(l:o<209)
 (i:(F.cells M tk).set o (.int .u16 (ot a n))=F.cells M' tk) (j:M'.mrom=M.mrom/\M'.arom=M.arom/\M'.ram=M.ram/\M'.own=M.own/\M'.video=M.video) (m:M'.fit) :
 Calls prog 243 #[.int .u8 n,pt x 0] W λe w'=>e=.returned (.tuple #[])/\Bd F w' M' tk/\Bt F W w':=by
 have c1:=h.at o _ hc;have f1:=h.bx.f o;have r:=h.bx.z;obtain⟨s,e1⟩:=h.env _ _ d;have c:x≠F.g:=λe=>h.nd.env _ _ d (Or.inl e)
 have H:=hid h;have p:=hid i;have q:=hid j;clear h i j;go_enter func243,ntmps243;go_wp2_with (go_at_call 209;refine(zcy a _ b).mono ?_;rintro e w1 ⟨rfl,rfl⟩)
 go_region_held3 (λw'=>w'.cell? ⟨x,0,none⟩=some (pt F.g o))
  ((first|(with_reducible exact tJ c e1)|(go_keep;done)))
  ((go_at_call 211;refine(tx (a/256) n _ (by unfold fu at b;omega) k).mono ?_;rintro e w1 ⟨rfl,rfl⟩))
 go_wp2;go_end0;exact⟨U,(H.out.put o _ l p.out q.out m).drew,((Bt.refl _ _).set H.out.nd _ _).drew⟩
theorem zqX(h:Bd F W M tk)(n:Int):Calls prog 191 #[pt F.g 0,.int .u8 n] W λe w'=>e=.returned (.tuple #[])/\Bd F w' (M.putM 8 n) tk/\Bt F W w':=by
 have c2:=h.at 63 (.bool M.b.g) U;have c3:=h.bx.f 63;have a:=h.bx.z;have H:=hid h;clear h;go_enter func191,ntmps191;go_wp2;go_end0;exact⟨U,H.out.put 63 _ (by omega) U ⟨U,U,U,U,U⟩ { H.out.fit with main:=H.out.fit.main },(Bt.refl _ _).set H.out.nd _ _⟩
theorem zqY(h:Bd F W M tk)(n:Int)(b:0<=n/\n<=255):Calls prog 196 #[pt F.g 0,.int .u8 n] W λe w'=>e=.returned (.tuple #[])/\Bd F w' (M.putM 17 n) tk/\Bt F W w':=by
 have c2:=h.at 71 (.bool M.rung) U;have c3:=h.bx.f 71;have c4:=h.at 69 (.int .u8 M.m0) U;have c5:=h.bx.f 69;have c:=h.bx.z;have H:=hid h;clear h;go_enter func196,ntmps196;go_wp2;go_end0;have a:Mach.fit { M with m0:=n }:={ H.out.fit with main:=H.out.fit.main,m0:=b }
 exact⟨U,(H.out.put (M':={ M with m0:=n }) (tk':=tk) 69 _ (by omega) U ⟨U,U,U,U,U⟩ a).put 71 _ (by omega) U ⟨U,U,U,U,U⟩ { a with main:=a.main },((Bt.refl _ _).set H.out.nd _ _).set H.out.nd _ _⟩
theorem zqZ(h:Bd F W M tk)(n:Int)(a:0<=n/\n<=255):Calls prog 198 #[.int .u8 n,pt F.E.ab 0] W λe w'=>e=.returned (.tuple #[])/\Bd F w' { M with m1:=n } tk/\Bt F W w':=by
 have c2:=h.at 70 (.int .u8 M.m1) U;have c3:=h.bx.f 70;have b:=h.bx.z;obtain⟨c,e1⟩:=h.env _ _ .ab;have H:=hid h;clear h;go_enter func198,ntmps198;go_wp2;go_end0;exact⟨U,H.out.put 70 _ (by omega) U ⟨U,U,U,U,U⟩ { H.out.fit with main:=H.out.fit.main,m1:=a },(Bt.refl _ _).set H.out.nd _ _⟩
end
def oQ(F:Fx)(W w':World)(M:Mach)(tk:Tk)(l:List Wt):Prop:=(∃ v,Bd F w' M (tk.app l v))/\Bw F W w'
theorem zfD(g o:Nat)(w:World):Calls prog 184 #[pt g o] w λe w'=>e=.returned (cZ 242 #[pt w.heap.size 0])/\w'=w.alloc (.cells #[pt g o] 265):=by
 go_enter func184,ntmps184;go_wp2;go_ret;exact⟨U,U⟩
theorem zil(g o:Nat)(w:World):Calls prog 185 #[pt g o] w λe w'=>e=.returned (cZ 243 #[pt w.heap.size 0])/\w'=w.alloc (.cells #[pt g o] 265):=by
 go_enter func185,ntmps185;go_wp2;go_ret;exact⟨U,U⟩
theorem znx(g:Nat)(i:Int)(w:World):Calls prog 182 #[pt g 0,.int .i64 i] w λe w'=>e=.returned (cZ 239 #[pt w.heap.size 0,pt (w.heap.size+1) 0])/\w'=(w.alloc (.cells #[pt g 0] 89)).alloc (.cells #[.int .i64 i] 3):=by
 go_enter func182,ntmps182;go_wp2;go_ret;exact⟨U,U⟩
theorem zoN(g:Nat)(i:Int)(w:World):Calls prog 199 #[pt g 0,.int .i64 i] w λe w'=>e=.returned (cZ 246 #[pt w.heap.size 0,pt (w.heap.size+1) 0])/\w'=(w.alloc (.cells #[pt g 0] 89)).alloc (.cells #[.int .i64 i] 3):=by
 go_enter func199,ntmps199;go_wp2;go_ret;exact⟨U,U⟩
theorem sF:(Tryz.prog.info? 138).map (·.size)=some 64:=by kernel_rfl
structure Gx where
 B:Nat
 g:Nat
 mr:Nat
 ar:Nat
 ra:Nat
 ow:Nat
 vi:Nat
 S:Sl
def Gx.T(F:Gx)(x:Nat):Prop:=x=F.g \/ x=F.ra \/ x=F.ow \/ x=F.vi
def Gx.cells(F:Gx)(M:Mach)(tk:Tk):List Value:=D M F.S++[tk.v,.int .i64 tk.n]
theorem Gx.len(F:Gx)(M:Mach)(tk:Tk):(F.cells M tk).length=77:=rfl
structure Gx.nd (F : Gx) : Prop where
 lo:F.B<=F.g/\F.B<=F.ra/\F.B<=F.ow/\F.B<=F.vi
 d:F.g≠F.ra/\F.g≠F.ow/\F.g≠F.vi/\F.ra≠F.ow/\F.ra≠F.vi/\F.ow≠F.vi
def Gx.apart(F:Gx)(M:Mach)(T:Nat->Prop):Prop:=(0<M.mrom.length->∀ k,F.S.mr.ownBlock=some k->¬ T k)/\(0<M.arom.length->∀ k,F.S.ar.ownBlock=some k->¬ T k)
theorem Gx.apart_of{F:Gx}{M M':Mach}{T:Nat->Prop}(h:F.apart M T)(h1:M'.mrom=M.mrom)(h2:M'.arom=M.arom):F.apart M' T:=by unfold Gx.apart;rw[h1,h2];exact h
structure Gd (F : Gx) (W : World) (M : Mach) (tk : Tk) : Prop where
 bx:Bx W F.g (F.cells M tk)
 mr:sliceAt W F.S.mr M.mrom
 ar:sliceAt W F.S.ar M.arom
 ra:Rw W F.S.ra F.ra M.ram
 ow:Rw W F.S.ow F.ow M.own
 vi:Rw W F.S.vi F.vi M.video
 nd:F.nd
 fit:M.fit
 big:F.B<=W.heap.size
 ws:W.ownsRow F.B 104 3 tk.v tk.l.length (kv tk.l)
 rd:F.apart M F.T
 wd:∀ k,tk.v.ownBlock=some k->¬ F.T k/\F.apart M (λj=>j=k)
theorem sliceAt.lt{W:World}{v:Value}{l:List UInt8}(h:sliceAt W v l)(b:0<l.length):∀ j,v.ownBlock=some j->j<W.heap.size:=λj e=>by
 rcases h with⟨a,c,h1,h2⟩|⟨g,o,d,h1,h2,h3,h4⟩
 ·rw[h2] at b;simp at b
 ·rw[h1] at e;cases e;exact h3
theorem sliceAt.same{W w1:World}{v:Value}{l:List UInt8}(h:sliceAt W v l)(d:W.heap.size<=w1.heap.size)(e:0<l.length->∀ k,v.ownBlock=some k->k<W.heap.size->w1.heap[k]?=W.heap[k]?):sliceAt w1 v l:=by
 rcases h with h|⟨g,o,a,h1,h2,h3,h4⟩
 ·exact Or.inl h
 ·exact Or.inr ⟨g,o,a,h1,h2,ap h3 d,λj c b=>(am (w:=W) (e (eB (aU _) (aA.1 b).1) g (by rw[h1];rfl) h3)).trans (h4 j c b)⟩
section
variable {F : Gx} {W w0 w1 : World} {M M' : Mach} {tk tk' : Tk}
theorem Gd.kept(h:Gd F W M tk)(hb:Below W.heap.size W w1):Gd F w1 M tk :=
 ⟨h.bx.kept hb,h.mr.same hb.size (λ_ k _ a=>hb.block _ a),h.ar.same hb.size (λ_ k _ a=>hb.block _ a),h.ra.same hb.size (λa=>hb.block _ a),h.ow.same hb.size (λa=>hb.block _ a),h.vi.same hb.size (λa=>hb.block _ a),
   h.nd,h.fit,ax h.big hb.size,fF h.ws (λk a=>hb.block k (h.ws.lt k a).2),h.rd,h.wd⟩
theorem Gd.over(h:Gd F W M tk)(o:Obj):Gd F (W.alloc o) M tk:=h.kept (stA (J W) o)
theorem Gd.drew(h:Gd F W M tk):Gd F W.drew M tk:=h.kept (J W).drew
theorem Gd.at(h:Gd F W M tk)(i:Nat)(v:Value)(e:(F.cells M tk)[i]?=some v):W.cell? ⟨F.g,i,none⟩=some v:=h.bx.at i v e
theorem Gd.put(h:Gd F W M tk)(i:Nat)(v:Value)(hi:i<77)(hc:(F.cells M tk).set i v=F.cells M' tk')(f:M'.mrom=M.mrom/\M'.arom=M.arom/\M'.ram=M.ram/\M'.own=M.own/\M'.video=M.video)(j:M'.fit)(a:tk'.v=tk.v/\tk'.l=tk.l:=by exact⟨U,U⟩):Gd F (W.setCell ⟨F.g,i,none⟩ v) M' tk':=by
 obtain⟨m1,c,m,n,o⟩:=f;obtain⟨d1,d2,d3,_⟩:=h.nd.d;have b:W.heap.size<=(W.setCell ⟨F.g,i,none⟩ v).heap.size:=by rw[iF];exact ak _
 refine⟨hc ▸ h.bx.set i v (by rw[F.len];exact hi),?_,?_,?_,?_,?_,h.nd,j,by rw[iF];exact h.big,by rw[a.1,a.2];exact fF h.ws (λk a=>dy (λe=>(h.wd k a).1 (Or.inl e))),Gx.apart_of h.rd m1 c,by rw[a.1];exact λk e=>⟨(h.wd k e).1,Gx.apart_of (h.wd k e).2 m1 c⟩⟩
 ·rw[m1];exact h.mr.same b (λhp k a _=>dy (λe=>h.rd.1 (by omega) k a (Or.inl e)))
 ·rw[c];exact h.ar.same b (λhp k a _=>dy (λe=>h.rd.2 (by omega) k a (Or.inl e)))
 ·rw[m];exact h.ra.same b (λ_=>dy (br d1))
 ·rw[n];exact h.ow.same b (λ_=>dy (br d2))
 ·rw[o];exact h.vi.same b (λ_=>dy (br d3))
theorem Gd.puts(h:Gd F W M tk)(i:Nat)(vs:List Value)(hi:i+vs.length<=77)(hc:gN (F.cells M tk) i vs=F.cells M' tk')(f:M'.mrom=M.mrom/\M'.arom=M.arom/\M'.ram=M.ram/\M'.own=M.own/\M'.video=M.video)(j:M'.fit)(a:tk'.v=tk.v/\tk'.l=tk.l:=by exact⟨U,U⟩):Gd F (W.setCells F.g i vs) M' tk':=by
 obtain⟨m1,c,m,n,o⟩:=f;obtain⟨d1,d2,d3,_⟩:=h.nd.d;have b:W.heap.size<=(W.setCells F.g i vs).heap.size:=bA (lU _ _ _ _).symm;refine⟨hc ▸ h.bx.puts i vs (by rw[F.len];exact hi),?_,?_,?_,?_,?_,h.nd,j,ax h.big b,by rw[a.1,a.2];exact fF h.ws (λk a=>fO (λe=>(h.wd k a).1 (Or.inl e)) _ _ _),Gx.apart_of h.rd m1 c,by rw[a.1];exact λk e=>⟨(h.wd k e).1,Gx.apart_of (h.wd k e).2 m1 c⟩⟩
 ·rw[m1];exact h.mr.same b (λhp k a _=>fO (λe=>h.rd.1 (by omega) k a (Or.inl e)) _ _ _)
 ·rw[c];exact h.ar.same b (λhp k a _=>fO (λe=>h.rd.2 (by omega) k a (Or.inl e)) _ _ _)
 ·rw[m];exact h.ra.same b (λ_=>fO (br d1) _ _ _)
 ·rw[n];exact h.ow.same b (λ_=>fO (br d2) _ _ _)
 ·rw[o];exact h.vi.same b (λ_=>fO (br d3) _ _ _)
theorem Gd.far(h:Gd F W M tk){b o:Nat}{v:Value}(d:b≠F.g)(c:F.T b):Bx (W.setCell ⟨b,o,none⟩ v) F.g (F.cells M tk)/\sliceAt (W.setCell ⟨b,o,none⟩ v) F.S.mr M.mrom/\sliceAt (W.setCell ⟨b,o,none⟩ v) F.S.ar M.arom /\
 F.B<=(W.setCell ⟨b,o,none⟩ v).heap.size/\(W.setCell ⟨b,o,none⟩ v).ownsRow F.B 104 3 tk.v tk.l.length (kv tk.l) :=
 ⟨h.bx.far d v,h.mr.same (by rw[iF];exact ak _) (λhp k a _=>dy (λe=>h.rd.1 hp k a (by rw[e];exact c))),h.ar.same (by rw[iF];exact ak _) (λhp k a _=>dy (λe=>h.rd.2 hp k a (by rw[e];exact c))),by rw[iF];exact h.big,fF h.ws (λk a=>dy (λe=>(h.wd k a).1 (by rw[e];exact c)))⟩
theorem Gd.putRam(h:Gd F W M tk)(i x:Int)(a:0<=i)(hi:i<128)(c:0<=x/\x<=255):Gd F (W.setCell ⟨F.ra,i.toNat,none⟩ (.int .u8 x)) { M with ram:=iH M.ram i x } tk:=by
 obtain⟨d1,d2,d3,d4,d5,g⟩:=h.nd.d;obtain⟨a1,a2,a3,a5,f⟩:=h.far (b:=F.ra) (o:=i.toNat) (v:=.int .u8 x) (br d1) (Or.inr (Or.inl U))
 exact⟨a1,a2,a3,h.ra.put i x a (by rw[h.fit.ram];exact hi) c,h.ow.same (by rw[iF];exact ak _) (λ_=>dy (br d4)),h.vi.same (by rw[iF];exact ak _) (λ_=>dy (br d5)),h.nd,
  { h.fit with ram:=by rw[pP];exact h.fit.ram,main:=h.fit.main,aux:=h.fit.aux,p0:=h.fit.p0,p1:=h.fit.p1,tr:=h.fit.tr,tc:=h.fit.tc,s:=h.fit.s,fr:=h.fit.fr,«to»:=h.fit.to,m0:=h.fit.m0,m1:=h.fit.m1 },a5,f,Gx.apart_of h.rd U U,λk e=>⟨(h.wd k e).1,Gx.apart_of (h.wd k e).2 U U⟩⟩
theorem Gd.putOwn(h:Gd F W M tk)(i x:Int)(a:0<=i)(hi:i<64)(c:0<=x/\x<=255):Gd F (W.setCell ⟨F.ow,i.toNat,none⟩ (.int .u8 x)) { M with own:=iH M.own i x } tk:=by
 obtain⟨d1,d2,d3,d4,d5,f⟩:=h.nd.d;obtain⟨a1,a2,a3,a5,g⟩:=h.far (b:=F.ow) (o:=i.toNat) (v:=.int .u8 x) (br d2) (Or.inr (Or.inr (Or.inl U)))
 exact⟨a1,a2,a3,h.ra.same (by rw[iF];exact ak _) (λ_=>dy d4),h.ow.put i x a (by rw[h.fit.own];exact hi) c,h.vi.same (by rw[iF];exact ak _) (λ_=>dy (br f)),h.nd,
  { h.fit with own:=by rw[pP];exact h.fit.own,main:=h.fit.main,aux:=h.fit.aux,p0:=h.fit.p0,p1:=h.fit.p1,tr:=h.fit.tr,tc:=h.fit.tc,s:=h.fit.s,fr:=h.fit.fr,«to»:=h.fit.to,m0:=h.fit.m0,m1:=h.fit.m1 },a5,g,Gx.apart_of h.rd U U,λk e=>⟨(h.wd k e).1,Gx.apart_of (h.wd k e).2 U U⟩⟩
theorem Gd.putVideo(h:Gd F W M tk)(i x:Int)(a:0<=i)(hi:i<256)(c:0<=x/\x<=255):Gd F (W.setCell ⟨F.vi,i.toNat,none⟩ (.int .u8 x)) { M with video:=iH M.video i x } tk:=by
 obtain⟨d1,d2,d3,d4,d5,f⟩:=h.nd.d;obtain⟨a1,a2,a3,a5,g⟩:=h.far (b:=F.vi) (o:=i.toNat) (v:=.int .u8 x) (br d3) (Or.inr (Or.inr (Or.inr U)))
 exact⟨a1,a2,a3,h.ra.same (by rw[iF];exact ak _) (λ_=>dy d5),h.ow.same (by rw[iF];exact ak _) (λ_=>dy f),h.vi.put i x a (by rw[h.fit.video];exact hi) c,h.nd,
  { h.fit with video:=by rw[pP];exact h.fit.video,main:=h.fit.main,aux:=h.fit.aux,p0:=h.fit.p0,p1:=h.fit.p1,tr:=h.fit.tr,tc:=h.fit.tc,s:=h.fit.s,fr:=h.fit.fr,«to»:=h.fit.to,m0:=h.fit.m0,m1:=h.fit.m1 },a5,g,Gx.apart_of h.rd U U,λk e=>⟨(h.wd k e).1,Gx.apart_of (h.wd k e).2 U U⟩⟩
abbrev Gt(F:Gx)(W w1:World):Prop:=Mv F.B F.T F.T W w1
theorem Gt.kept(h:Gt F W w0)(a:F.B<=w0.heap.size)(hb:Below w0.heap.size w0 w1):Gt F W w1:=Mv.trans h (Mv.of_below a hb)
theorem Gt.set(a:F.nd)(h:Gt F W w0)(i:Nat)(v:Value):Gt F W (w0.setCell ⟨F.g,i,none⟩ v):=Mv.setCell h a.lo.1 (Or.inl (Or.inl rfl)) v
theorem Gt.setR(a:F.nd)(h:Gt F W w0)(i:Nat)(v:Value):Gt F W (w0.setCell ⟨F.ra,i,none⟩ v):=Mv.setCell h a.lo.2.1 (Or.inl (Or.inr (Or.inl rfl))) v
theorem Gt.setO(a:F.nd)(h:Gt F W w0)(i:Nat)(v:Value):Gt F W (w0.setCell ⟨F.ow,i,none⟩ v):=Mv.setCell h a.lo.2.2.1 (Or.inl (Or.inr (Or.inr (Or.inl rfl)))) v
theorem Gt.setV(a:F.nd)(h:Gt F W w0)(i:Nat)(v:Value):Gt F W (w0.setCell ⟨F.vi,i,none⟩ v):=Mv.setCell h a.lo.2.2.2 (Or.inl (Or.inr (Or.inr (Or.inr rfl)))) v
theorem Gt.sets(a:F.nd):∀(vs:List Value) (i:Nat) (w0:World),Gt F W w0->Gt F W (w0.setCells F.g i vs)
 | [],i,w0,h=>h
 | v::vs,i,w0,h=>Gt.sets a vs (i+1) _ (Gt.set a h i v)
theorem Gt.refl(F:Gx)(W:World):Gt F W W:=Mv.refl _ _ _
theorem Gt.under(h:Gd F W M tk){w0:World}(hb:Below W.heap.size W w0):Gt F W w0:=Mv.of_below h.big hb
def Gx.Tw(F:Gx)(W:World)(k:Nat):Prop:=F.T k \/ ∃ cs fr,W.heap[k]?=some (.cells cs 104 fr)
theorem znq{k:Nat}(e:w1.heap[k]?=W.heap[k]?)(h:F.Tw w1 k):F.Tw W k:=h.imp id (λ⟨cs,fr,x⟩=>⟨cs,fr,e ▸ x⟩)
def Gw(F:Gx)(W w1:World):Prop:=Mv F.B (F.Tw W) (F.Tw w1) W w1
theorem Gt.w(h:Gt F W w1):Gw F W w1:=⟨h.below,λk a b=>h.block k a (λx=>b (Or.inl x)),λk b=>by
 rcases ey k W.heap.size with a|a
 ·by_cases c:F.T k
  ·exact Or.inl (Or.inl c)
  ·exact Or.inl (znq (h.block k a c) b)
 ·exact Or.inr a⟩
theorem Gw.trans{w2:World}(h:Gw F W w1)(k:Gw F w1 w2):Gw F W w2:=Mv.trans h k
theorem Gw.of_below(hB:F.B<=W.heap.size)(hb:Below W.heap.size W w1):Gw F W w1:=Gt.w (Mv.of_below hB hb)
theorem Gw.grown(h:Gd F W M tk)(d:W.grownBy w1 tk.v.ownBlock):Gw F W w1 :=
 have b:∀ k,k<W.heap.size->¬ F.Tw W k->some k≠tk.v.ownBlock:=λk a c e=>c (Or.inr (by
  rcases h.ws.2 with⟨f,_⟩|⟨g,j,l,f,_,m,_⟩
  ·rw[f] at e;cases e
  ·rw[f] at e;cases e;exact⟨_,_,m⟩))
 ⟨(aW F.B W).grown d h.big (λk a=>(h.ws.lt k a).1),λk a c=>d.block k a (b k a c),λk c=>by
   rcases ey k W.heap.size with a|a
   ·by_cases i:F.Tw W k
    ·exact Or.inl i
    ·exact Or.inl (znq (d.block k a (b k a i)) c)
   ·exact Or.inr a⟩
theorem Gd.ramV(h:Gd F W M tk):∃ a,F.S.ra=.slice (some ⟨F.ra,0,none⟩) 128 a/\128<=a/\Bx W F.ra (dW M.ram):=by
 obtain⟨a,h1,h2,h3⟩:=h.ra.some (by rw[h.fit.ram];omega);rw[h.fit.ram] at h1 h2;exact⟨a,h1,h2,h3⟩
theorem Gd.ownV(h:Gd F W M tk):∃ a,F.S.ow=.slice (some ⟨F.ow,0,none⟩) 64 a/\64<=a/\Bx W F.ow (dW M.own):=by
 obtain⟨a,h1,h2,h3⟩:=h.ow.some (by rw[h.fit.own];omega);rw[h.fit.own] at h1 h2;exact⟨a,h1,h2,h3⟩
theorem Gd.viV(h:Gd F W M tk):∃ a,F.S.vi=.slice (some ⟨F.vi,0,none⟩) 256 a/\256<=a/\Bx W F.vi (dW M.video):=by
 obtain⟨a,h1,h2,h3⟩:=h.vi.some (by rw[h.fit.video];omega);rw[h.fit.video] at h1 h2;exact⟨a,h1,h2,h3⟩
theorem Gd.ramAt(h:Gd F W M tk)(i:Int)(b:0<=i)(hi:i<128):W.cell? ⟨F.ra,i.toNat,none⟩=some (.int .u8 (jd M.ram i))/\F.ra<W.heap.size/\W.frozen? ⟨F.ra,i.toNat,none⟩=false:=by
 obtain⟨_,_,_,a⟩:=h.ramV;exact⟨a.at _ _ (qe _ _ b (by rw[h.fit.ram];exact hi)),a.z,a.f _⟩
theorem Gd.ownAt(h:Gd F W M tk)(i:Int)(b:0<=i)(hi:i<64):W.cell? ⟨F.ow,i.toNat,none⟩=some (.int .u8 (jd M.own i))/\F.ow<W.heap.size/\W.frozen? ⟨F.ow,i.toNat,none⟩=false:=by
 obtain⟨_,_,_,a⟩:=h.ownV;exact⟨a.at _ _ (qe _ _ b (by rw[h.fit.own];exact hi)),a.z,a.f _⟩
theorem Gd.viAt(h:Gd F W M tk)(i:Int)(b:0<=i)(hi:i<256):W.cell? ⟨F.vi,i.toNat,none⟩=some (.int .u8 (jd M.video i))/\F.vi<W.heap.size/\W.frozen? ⟨F.vi,i.toNat,none⟩=false:=by
 obtain⟨_,_,_,a⟩:=h.viV;exact⟨a.at _ _ (qe _ _ b (by rw[h.fit.video];exact hi)),a.z,a.f _⟩
theorem wq{l:List Wt}(h:Gd F w1 M tk)(a:l=[])(b:Gt F W w1):(∃ v,Gd F w1 M (tk.app l v))/\Gw F W w1:=⟨⟨tk.v,by rw[a,Tk.app_nil];exact h⟩,b.w⟩
end
theorem sN:Tryz.prog.underlying 257=some (.map 4 5):=by kernel_rfl
theorem ziz(w:World):(zeroValue 5).run prog w=.ok (.int .u8 0) w:=by kernel_rfl
theorem zfH(x y:Bool)(w:World):Calls prog 91 #[.bool x,.bool y] w λe w'=>e=.returned (.int .u8 (two x y))/\Below w.heap.size w w':=by
 have i:=@iN prog;cases x <;> cases y
 all_goals
  go_enter func91,ntmps91;go_wp2_with (first
   | (refine zdt _ U _ _ _ 257 U 4 5 sN underlying4 w2.heap.size 0 U ?_ _ U U ?_;(exact aJ _ _);intro h a f;have b:=zcB sN underlying4 a false _ (ziz h);have c:=zcB sN underlying4 a true _ (ziz h);simp only[oS,bK,dt,dL] at b c;have j:=hid (bn k.out (f.grown _ (stA (J _) _) (ak _)));clear a f)
   | (refine zdt _ U _ _ _ 257 U 4 5 sN underlying4 w.heap.size 0 U ?_ _ U U ?_;(exact aJ _ _);intro w2 d g;have b:=zcB sN underlying4 d false _ (ziz w2);have c:=zcB sN underlying4 d true _ (ziz w2);simp only[oS,bK,dt,dL] at b c;have k:=hid (g.grown _ (stA (J w) _) (ak _));clear d g))
  go_ret;exact⟨U,j.out⟩
end Go.Proofs.YthghjlinhokimaaGreatDoor
