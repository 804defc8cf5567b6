/-
  Parts of a proof, joined.
-/
import Derived.Test.YthghjlinhokimaaGreatDoorZbA
import Derived.Test.YthghjlinhokimaaGreatDoorZb07
import Derived.Test.YthghjlinhokimaaGreatDoorZb08
import Derived.Test.YthghjlinhokimaaGreatDoorZb06
set_option linter.all false
set_option maxRecDepth 100000
set_option maxHeartbeats 6400000
open Option renaming none->G,some->A
open Go renaming World->u,Value->π,Calls->Δ
open Bool renaming false->ξ
open Go.Proofs.Tryz renaming prog->ω
open Or renaming inl->aj,inr->ao
open Go.Value renaming int->J,slice->κ,bool->ν,tuple->Ψ,agg->ac,pointer->aB,nilFunc->aI
open Go.IntKind renaming i64->Q,u16->Y,u8->au
open Go.Ending renaming returned->μ
open Go.Obj renaming cells->χ
namespace Go.Proofs.YthghjlinhokimaaGreatDoor
open Go.ChangeShapes Go.WideShapes Go.ChangeAt Go.RowKit Go.Proofs.Tryz
structure Pd where
 d:Int
 l:Bool
 s:Int
structure Bem where
 l:Int
 a:Int
 g:Bool
 f:Int
structure Mach where
 main:C.Cpu
 aux:C.Cpu
 mrom:List UInt8
 arom:List UInt8
 ram:List UInt8
 own:List UInt8
 video:List UInt8
 p0:Pd
 p1:Pd
 t:TM
 s:Sd
 b:Bem
 fr:Int
 «to»:Int
 granted:Bool
 held:Bool
 m0:Int
 m1:Int
 rung:Bool
 clock:Int
 mready:Int
 aready:Int
structure Wt where
 c:Int
 a:Int
 v:Int
structure Tk where
 n:Int
 l:List Wt
 v:π
abbrev Tk.zero:Tk:=⟨0,[],κ G 0 0⟩
abbrev Tk.add(t:Tk)(k:Int):Tk:={ t with n:=t.n+k }
def oC:List Wt->List π
 | []=>[]
 | x::l=>J Q x.c :: J Q x.a :: J au x.v::oC l
theorem znR:∀(l:List Wt) (k:List Wt),oC (l++k)=oC l++oC k
 | [],k=>rfl
 | x::l,k=>by simp only[oC,cV,znR l k]
abbrev Tk.app(t:Tk)(l:List Wt)(v:π):Tk:=⟨t.n,t.l++l,v⟩
theorem Tk.add_zero(t:Tk):t.add 0=t:=by cases t;simp[Tk.add]
theorem Tk.app_nil(t:Tk):t.app [] t.v=t:=by cases t;simp[Tk.app]
structure Pd.ok (p : Pd) : Prop where
 d:0<=p.d/\p.d<=255
 s:0<=p.s/\p.s<=255
def Pd.rd(p:Pd):Int:=ir p.l p.d p.s/128
def Pd.next(p:Pd):Pd:=⟨p.d,p.l,ir p.l p.s (p.s*2%256+1)⟩
def Pd.wr(p:Pd)(x:Int):Pd:=⟨p.d,et x,ir (et x) p.d p.s⟩
def TM.put(t:TM)(n:Int):TM:=⟨t.r,ir (et n) t.r t.c,et n,if et (n/2) then ξ else t.g⟩
def mq(l:List UInt8)(i:Int):Int:=((l.getD i.toNat 0).toNat:Int)
def lF(l:List UInt8)(i:Int)(x:Int):List UInt8:=l.set i.toNat (UInt8.ofNat x.toNat)
def sW(w b:Int):Int:=b*256+w%256
def tI(w b:Int):Int:=w/256*256+b
def two(a b:Bool):Int:=(if a then 1 else 0)+(if b then 2 else 0)
def mM(l:List UInt8)(a:Int):Int:=if a<l.length then mq l a else 255
def Mach.lookM(M:Mach)(a:Int):Int:=if a<32768 then mM M.mrom a else if a<49152 then mq M.ram ((a-32768)%128) else if a<53248 then mq M.video ((a-49152)%256) else 255
def Mach.lookA(M:Mach)(a:Int):Int:=if a<32768 then mM M.arom a else if a<49152 then mq M.own ((a-32768)%64) else if a<53248 then (if M.granted then mq M.ram ((a-49152)%128) else 255) else 255
def Mach.portM(M:Mach)(p:Nat):Int × Mach :=
 match p with
 | 0=>(M.p0.rd,{ M with p0:=M.p0.next })
 | 1=>(M.p1.rd,{ M with p1:=M.p1.next })
 | 4=>(two M.t.on M.t.g,M)
 | 6=>(M.b.l,M)
 | 7=>(M.b.a,M)
 | 8=>(two M.b.g ξ,M)
 | 16=>(two M.granted M.held,M)
 | 17=>(M.m1,M)
 | _=>(255,M)
def Mach.portA(M:Mach)(p:Nat):Int × Mach:=if p=24 then (M.m0,{ M with rung:=ξ }) else (255,M)
def Mach.xfer(M:Mach):Nat->Mach
 | 0=>M
 | k+1=>{ M.xfer k with video:=lF (M.xfer k).video ((M.to+k)%65536%256) ((M.xfer k).lookM ((M.fr+k)%65536)) }
def gM(hi lo:Int):C.Cpu:={ C.Cpu.zero with PC:=hi*256+lo }
def Mach.grant(M:Mach)(n:Int):Mach:={ M with granted:=et n,held:=et (n/2) }
def Mach.letGo(M:Mach)(n:Int):Mach :=
 if M.held && !(et (n/2)) then { M.grant n with aux:=gM ((M.grant n).lookA 0) ((M.grant n).lookA 1),aready:=M.clock } else M.grant n
def Mach.putM(M:Mach)(p:Nat)(n:Int):Mach :=
 match p with
 | 0=>{ M with p0:=M.p0.wr n,p1:=M.p1.wr n }
 | 2=>{ M with t:={ M.t with r:=sW M.t.r n } }
 | 3=>{ M with t:={ M.t with r:=tI M.t.r n } }
 | 4=>{ M with t:=M.t.put n }
 | 8=>{ M with b:={ M.b with g:=ξ } }
 | 10=>{ M with fr:=sW M.fr n }
 | 11=>{ M with fr:=tI M.fr n }
 | 12=>{ M with «to»:=sW M.to n }
 | 13=>{ M with «to»:=tI M.to n }
 | 14=>M.xfer n.toNat
 | 16=>M.letGo n
 | 17=>{ M with m0:=n,rung:=true }
 | _=>M
def ph(p:Nat)(n:Int):Int:=if p=14 then 2*n else 0
def Mach.putA(M:Mach)(p:Nat)(n:Int):Mach:=if p<24 then { M with s:=M.s.put p n } else if p=24 then { M with m1:=n } else M
def portNo(a:Int):Nat:=(a%32).toNat
def dP(a:Int):Bool:=decide (53248<=a/\a<=57343)
def Mach.rdM(M:Mach)(a:Int):Int × Mach:=if dP a then M.portM (portNo a) else (M.lookM a,M)
def Mach.rdA(M:Mach)(a:Int):Int × Mach:=if dP a then M.portA (portNo a) else (M.lookA a,M)
def Mach.memM(M:Mach)(a n:Int):Mach:=if a<32768 then M else if a<49152 then { M with ram:=lF M.ram ((a-32768)%128) n } else if a<53248 then { M with video:=lF M.video ((a-49152)%256) n } else M
def Mach.memA(M:Mach)(a n:Int):Mach:=if a<32768 then M else if a<49152 then { M with own:=lF M.own ((a-32768)%64) n } else if a<53248 then (if M.granted then { M with ram:=lF M.ram ((a-49152)%128) n } else M) else M
def Mach.wrM(M:Mach)(a n:Int):Mach:=if dP a then M.putM (portNo a) n else M.memM a n
def Mach.wrA(M:Mach)(a n:Int):Mach:=if dP a then M.putA (portNo a) n else M.memA a n
def shown(c:Int)(p:Nat)(n:Int):List Wt:=if p<24 then [⟨c,p,n⟩] else []
def Mach.shA(M:Mach)(a n:Int):List Wt:=if dP a then shown M.clock (portNo a) n else []
def kt(a n:Int):Int:=if dP a then ph (portNo a) n else 0
/-! ### machines that may be -/
def je(x:Int):Prop:=0<=x/\x<=65535
def bd8(x:Int):Prop:=0<=x/\x<=255
structure Mach.ok (M : Mach) : Prop where
 main:M.main.ok
 aux:M.aux.ok
 p0:M.p0.ok
 p1:M.p1.ok
 tr:je M.t.r
 tc:je M.t.c
 s:M.s.ok
 fr:je M.fr
 «to»:je M.to
 m0:bd8 M.m0
 m1:bd8 M.m1
structure BOr (l a f : Int) : Prop where
 l0:0<=l
 l1:l<=9
 a0:0<=a
 a1:a<=63
 f0:0<=f
 f1:f<=20001
structure Mach.fit (M : Mach) : Prop extends M.ok where
 mrom:M.mrom.length<=1024
 arom:M.arom.length<=1024
 ram:M.ram.length=128
 own:M.own.length=64
 video:M.video.length=256
 w:0<=M.s.w/\M.s.w<=15
 b:BOr M.b.l M.b.a M.b.f
 clock:0<=M.clock/\M.clock<=200000
 mready:0<=M.mready/\M.mready<=M.clock+20000
 aready:0<=M.aready/\M.aready<=M.clock+20000
/-! ### cells -/
structure Sl where
 mr:π
 ar:π
 ra:π
 ow:π
 vi:π
def bY(c:C.Cpu):List π:=[J Y (c.r 0),J Y (c.r 1),J Y (c.r 2),J Y (c.r 3),J Y (c.r 4),J Y (c.r 5),J Y (c.r 6),J Y (c.r 7),J Y c.PC,ν c.Z,ν c.N,ν c.C,ν c.V,ν c.May,ν c.Waits]
def zh(S:Sl):List π:=[S.mr,S.ar,S.ra,S.ow,S.vi]
def vt(M:Mach):List π:=[J au M.p0.d,ν M.p0.l,J au M.p0.s,J au M.p1.d,ν M.p1.l,J au M.p1.s,J Y M.t.r,J Y M.t.c,ν M.t.on,ν M.t.g,
 J Y M.s.a.p,J Y M.s.a.c,J au M.s.a.l,ν M.s.a.h,J Y M.s.a.n,J Y M.s.b.p,J Y M.s.b.c,J au M.s.b.l,ν M.s.b.h,J Y M.s.b.n,J Y M.s.c.p,J Y M.s.c.c,J au M.s.c.l,ν M.s.c.h,J Y M.s.c.n,J Q M.s.w,
 J Q M.b.l,J Q M.b.a,ν M.b.g,J Q M.b.f,J Y M.fr,J Y M.to,ν M.granted,ν M.held,J au M.m0,J au M.m1,ν M.rung,J Q M.clock,J Q M.mready,J Q M.aready]
def υ(M:Mach)(S:Sl):List π:=bY M.main++(bY M.aux++(zh S++vt M))
theorem dG(M:Mach)(S:Sl):(υ M S).length=75:=rfl
theorem Bx.same{W w1:u}{b:Nat}{L:List π}(h:Bx W b L)(a:W.heap.size<=w1.heap.size)(e:w1.heap[b]?=W.heap[b]?):Bx w1 b L :=
 ⟨Θ h.z a,λj v d=>(Φ (w:=W) e).trans (h.c j v d),λo=>(gt (w:=W) e).trans (h.f o)⟩
abbrev pt(g o:Nat):π:=aB (A ⟨g,o,G⟩)
abbrev ik(n g o:Nat):π:=.func (.func n) #[pt g o] #[]
abbrev fh(n:Nat)(cs:Array π):π:=.func (.func n) #[] cs
def Rw(W:u)(v:π)(k:Nat)(l:List UInt8):Prop:=(v=κ G 0 0/\l=[]) \/ ∃ a,v=κ (A ⟨k,0,G⟩) l.length a/\l.length<=a/\Bx W k (gJ l)
theorem Rw.same{W w1:u}{v:π}{k:Nat}{l:List UInt8}(h:Rw W v k l)(b:W.heap.size<=w1.heap.size)(e:k<W.heap.size->w1.heap[k]?=W.heap[k]?):Rw w1 v k l:=by
 rcases h with h|⟨a,h1,h2,h3⟩
 ·exact aj h
 ·exact ao ⟨a,h1,h2,h3.same b (e h3.z)⟩
theorem Rw.same2{W w1:u}{v:π}{k:Nat}{l:List UInt8}(h:Rw W v k l)(b:W.heap.size<=w1.heap.size)(e:∀ j,v.ownBlock=A j->j<W.heap.size->w1.heap[j]?=W.heap[j]?):Rw w1 v k l:=by
 rcases h with h|⟨a,h1,h2,h3⟩
 ·exact aj h
 ·exact ao ⟨a,h1,h2,h3.same b (e k (by rw[h1];rfl) h3.z)⟩
theorem Rw.lt{W:u}{v:π}{k:Nat}{l:List UInt8}(h:Rw W v k l):∀ j,v.ownBlock=A j->j<W.heap.size:=λj e=>by
 rcases h with⟨h,_⟩|⟨a,h1,h2,h3⟩
 ·rw[h] at e;cases e
 ·rw[h1] at e;cases e;exact h3.z
theorem Rw.slice{W:u}{v:π}{k:Nat}{l:List UInt8}(h:Rw W v k l):sliceAt W v l:=by
 rcases h with⟨rfl,rfl⟩|⟨a,h1,h2,h3⟩
 ·exact aj ⟨G,0,D,D⟩
 ·refine ao ⟨k,0,a,h1,h2,h3.z,λj c b=>?_⟩
  rw[aX];refine h3.at j _ ?_;simp[gJ,b]
theorem Rw.some{W:u}{v:π}{k:Nat}{l:List UInt8}(h:Rw W v k l)(b:0<l.length):∃ a,v=κ (A ⟨k,0,G⟩) l.length a/\l.length<=a/\Bx W k (gJ l):=by
 rcases h with⟨_,rfl⟩|h
 ·simp at b
 ·exact h
theorem znS(l:List UInt8):(gJ l).length=l.length:=by simp[gJ]
theorem zi(l:List UInt8)(i:Int):0<=mq l i/\mq l i<=255:=by
 unfold mq;have:=(l.getD i.toNat 0).toNat_lt;omega
theorem wV(l:List UInt8)(i:Int)(a:0<=i)(h:i<l.length):(gJ l)[i.toNat]?=A (J au (mq l i)):=by
 have hi:i.toNat<l.length:=by omega
 simp[gJ,mq,List.getD,aq hi]
theorem zyD(l:List UInt8)(i x:Int)(a:0<=x/\x<=255):(gJ l).set i.toNat (J au x)=gJ (lF l i x):=by
 unfold gJ lF;rw[oJ];congr 2;rw[oy];omega
theorem wm(l:List UInt8)(i x:Int):(lF l i x).length=l.length:=by simp[lF]
structure Env where
 mb:Nat
 q0:Nat
 w0:Nat
 q1:Nat
 w1:Nat
 h2:Nat
 h3:Nat
 h10:Nat
 h11:Nat
 h12:Nat
 h13:Nat
 ab:Nat
 sb:Nat->Nat
 sa:Nat->Nat
structure Fx where
 B:Nat
 g:Nat
 mr:Nat
 ar:Nat
 ra:Nat
 ow:Nat
 vi:Nat
 S:Sl
 E:Env
def Fx.T(F:Fx)(x:Nat):Prop:=x=F.g \/ x=F.ra \/ x=F.ow \/ x=F.vi
inductive Fx.has (F : Fx) : Nat -> π -> Prop
 | mb:F.has F.E.mb (pt F.g 0)
 | q0:F.has F.E.q0 (pt F.g 0)
 | w0:F.has F.E.w0 (J Q 0)
 | q1:F.has F.E.q1 (pt F.g 0)
 | w1:F.has F.E.w1 (J Q 1)
 | h2:F.has F.E.h2 (pt F.g 41)
 | h3:F.has F.E.h3 (pt F.g 41)
 | h10:F.has F.E.h10 (pt F.g 65)
 | h11:F.has F.E.h11 (pt F.g 65)
 | h12:F.has F.E.h12 (pt F.g 66)
 | h13:F.has F.E.h13 (pt F.g 66)
 | ab:F.has F.E.ab (pt F.g 0)
 | sb (i:Nat) (h:i<24):F.has (F.E.sb i) (pt F.g 0)
 | sa (i:Nat) (h:i<24):F.has (F.E.sa i) (J Q i)
def Fx.rdM(F:Fx)(i:Nat):π :=
 match i with
 | 0=>fh 239 #[pt F.E.q0 0,pt F.E.w0 0]
 | 1=>fh 239 #[pt F.E.q1 0,pt F.E.w1 0]
 | 4=>ik 186 F.g 0
 | 6=>fh 188 #[pt F.E.mb 0]
 | 7=>fh 189 #[pt F.E.mb 0]
 | 8=>ik 190 F.g 0
 | 16=>ik 193 F.g 0
 | 17=>fh 195 #[pt F.E.mb 0]
 | _=>aI
def Fx.wrM(F:Fx)(i:Nat):π :=
 match i with
 | 0=>ik 183 F.g 0
 | 2=>fh 242 #[pt F.E.h2 0]
 | 3=>fh 243 #[pt F.E.h3 0]
 | 4=>ik 187 F.g 0
 | 8=>ik 191 F.g 0
 | 10=>fh 242 #[pt F.E.h10 0]
 | 11=>fh 243 #[pt F.E.h11 0]
 | 12=>fh 242 #[pt F.E.h12 0]
 | 13=>fh 243 #[pt F.E.h13 0]
 | 14=>ik 192 F.g 0
 | 16=>ik 194 F.g 0
 | 17=>ik 196 F.g 0
 | _=>aI
def Fx.rdA(F:Fx)(i:Nat):π:=if i=24 then ik 197 F.g 0 else aI
def Fx.wrA(F:Fx)(i:Nat):π:=if i<24 then fh 246 #[pt (F.E.sb i) 0,pt (F.E.sa i) 0] else if i=24 then fh 198 #[pt F.E.ab 0] else aI
def eP(r w:Nat->π):Nat->List π
 | 0=>[]
 | n+1=>eP r w n++[r n,w n]
theorem se(r w:Nat->π):∀ n,(eP r w n).length=2*n
 | 0=>rfl
 | n+1=>by rw[eP,az,se r w n];simp;omega
theorem zet(r w:Nat->π):∀ n i,i<n->(eP r w n)[2*i]?=A (r i)/\(eP r w n)[2*i+1]?=A (w i)
 | 0,i,h=>by omega
 | n+1,i,h=>by
  rw[eP];by_cases e:i<n
  ·obtain⟨h1,h2⟩:=zet r w n i e
   rw[bc (by rw[se];omega),bc (by rw[se];omega)];exact⟨h1,h2⟩
  ·obtain rfl:i=n:=by omega
   rw[aY (by rw[se];omega),aY (by rw[se];omega),se];exact⟨by simp,by rw[show 2*i+1-2*i=1 by omega];rfl⟩
def Fx.sideM(F:Fx):List π:=[pt F.g 30,ik 107 F.g 0]++eP F.rdM F.wrM 32
def Fx.sideA(F:Fx):List π:=[pt F.g 31,ik 109 F.g 0]++eP F.rdA F.wrA 32
def Fx.cells(F:Fx)(M:Mach)(tk:Tk):List π:=υ M F.S++([J Q tk.n,tk.v]++(F.sideM++F.sideA))
theorem Fx.len(F:Fx)(M:Mach)(tk:Tk):(F.cells M tk).length=209:=by
 unfold Fx.cells Fx.sideM Fx.sideA;simp only[az,se,dG];rfl
theorem zxY(ζ B C γ:List π)(a b c n:Nat)(v:π)(d:ζ.length=a)(hB:B.length=b)(e:C.length=c)(h:γ[n]?=A v)(E:List π):(ζ++(B++((C++γ)++E)))[a+b+c+n]?=A v:=by
 have f:=(ay.1 h).1;rw[aY (by omega),aY (by omega),bc (by simp;omega),aY (by omega),<- h];congr 1;omega
theorem znT(ζ B C γ E:List π)(a b c e n:Nat)(v:π)(d:ζ.length=a)(hB:B.length=b)(f:E.length=e)(g:C.length=c)(h:γ[n]?=A v):(ζ++(B++(E++(C++γ))))[a+b+e+c+n]?=A v:=by
 rw[aY (by omega),aY (by omega),aY (by omega),aY (by omega),<- h];congr 1;omega
theorem Fx.portM(F:Fx)(M:Mach)(tk:Tk)(i:Nat)(h:i<32):(F.cells M tk)[79+2*i]?=A (F.rdM i)/\(F.cells M tk)[79+2*i+1]?=A (F.wrM i):=by
 obtain⟨h1,h2⟩:=zet F.rdM F.wrM 32 i h;exact⟨zxY _ _ _ _ 75 2 2 (2*i) _ (dG M F.S) D D h1 F.sideA,zxY _ _ _ _ 75 2 2 (2*i+1) _ (dG M F.S) D D h2 F.sideA⟩
theorem Fx.portA(F:Fx)(M:Mach)(tk:Tk)(i:Nat)(h:i<32):(F.cells M tk)[145+2*i]?=A (F.rdA i)/\(F.cells M tk)[145+2*i+1]?=A (F.wrA i):=by
 obtain⟨h1,h2⟩:=zet F.rdA F.wrA 32 i h;have a:F.sideM.length=66:=by unfold Fx.sideM;rw[az,se];rfl
 exact⟨znT _ _ _ _ F.sideM 75 2 2 66 (2*i) _ (dG M F.S) D a D h1,znT _ _ _ _ F.sideM 75 2 2 66 (2*i+1) _ (dG M F.S) D a D h2⟩
structure Fx.nd (F : Fx) : Prop where
 lo:F.B<=F.g/\F.B<=F.ra/\F.B<=F.ow/\F.B<=F.vi
 d:F.g≠F.ra/\F.g≠F.ow/\F.g≠F.vi/\F.ra≠F.ow/\F.ra≠F.vi/\F.ow≠F.vi
 mr:¬ F.T F.mr
 ar:¬ F.T F.ar
 env:∀ x v,F.has x v->¬ F.T x
def Fx.off(F:Fx)(k:Nat):Prop:=¬ F.T k/\F.S.mr.ownBlock≠A k/\F.S.ar.ownBlock≠A k /\ ∀ x θ,F.has x θ->x≠k
structure Bd (F : Fx) (W : u) (M : Mach) (tk : Tk) : Prop where
 bx:Bx W F.g (F.cells M tk)
 mr:Rw W F.S.mr F.mr M.mrom
 ar:Rw W F.S.ar F.ar M.arom
 ra:Rw W F.S.ra F.ra M.ram
 ow:Rw W F.S.ow F.ow M.own
 vi:Rw W F.S.vi F.vi M.video
 env:∀ x v,F.has x v->x<W.heap.size/\W.cell? ⟨x,0,G⟩=A v
 nd:F.nd
 fit:M.fit
 big:F.B<=W.heap.size
 ws:W.ownsRow F.B 104 3 tk.v tk.l.length (oC tk.l)
 wd:∀ k,tk.v.ownBlock=A k->F.off k
theorem jr{w w':u}{B:Nat}{t:TypeId}{z:Nat}{v:π}{n:Nat}{xs:List π}(h:w.ownsRow B t z v n xs)(e:∀ k,v.ownBlock=A k->w'.heap[k]?=w.heap[k]?):w'.ownsRow B t z v n xs:=by
 refine⟨h.1,?_⟩;rcases h.2 with h2|⟨g,a,b,rfl,hb,c,r⟩
 ·exact aj h2
 ·exact ao ⟨g,a,b,D,hb,(e g D).trans c,r⟩
section
variable {F : Fx} {W w0 w1 : u} {M M' : Mach} {tk tk' : Tk}
theorem Bd.kept(h:Bd F W M tk)(hb:Below W.heap.size W w1):Bd F w1 M tk :=
 ⟨h.bx.kept hb,h.mr.same hb.size (λa=>hb.block _ a),h.ar.same hb.size (λa=>hb.block _ a),h.ra.same hb.size (λa=>hb.block _ a),h.ow.same hb.size (λa=>hb.block _ a),h.vi.same hb.size (λa=>hb.block _ a),
   λx v b=>⟨Θ (h.env x v b).1 hb.size,(hb.cell (p:=⟨x,0,G⟩) (h.env x v b).1).trans (h.env x v b).2⟩,h.nd,h.fit,ax h.big hb.size,jr h.ws (λk a=>hb.block k (h.ws.lt k a).2),h.wd⟩
theorem Bd.over(h:Bd F W M tk)(o:Obj):Bd F (W.alloc o) M tk:=h.kept (stA (aR W) o)
theorem Bd.drew(h:Bd F W M tk):Bd F W.drew M tk:=h.kept (aR W).drew
theorem Bd.drewN(h:Bd F W M tk)(n:Nat):Bd F (W.drewN n) M tk:=h.kept (Bl.drewN (aR W) n)
theorem f8{W:u}{b o x:Nat}{v:π}(h:x≠b):(W.setCell ⟨b,o,G⟩ v).heap[x]?=W.heap[x]?:=cF _ _ _ _ (λe=>h e)
theorem lA{W:u}{a:Addr}{v:π}:(W.setCell a v).heap.size=W.heap.size:=by simp[World.setCell]
theorem Bd.put(h:Bd F W M tk)(i:Nat)(v:π)(hi:i<209)(hc:(F.cells M tk).set i v=F.cells M' tk')(c:M'.mrom=M.mrom/\M'.arom=M.arom/\M'.ram=M.ram/\M'.own=M.own/\M'.video=M.video)(f:M'.fit)(a:tk'.v=tk.v/\tk'.l=tk.l:=by exact⟨D,D⟩):Bd F (W.setCell ⟨F.g,i,G⟩ v) M' tk':=by
 obtain⟨m1,j,m,n,o⟩:=c;obtain⟨d1,d2,d3,_⟩:=h.nd.d;have p:=λe=>h.nd.mr (aj e)
 have q:=λe=>h.nd.ar (aj e)
 refine⟨hc ▸ h.bx.set i v (by rw[F.len];exact hi),?_,?_,?_,?_,?_,λx θ b=>?_,h.nd,f,by rw[lA];exact h.big,by rw[a.1,a.2];exact jr h.ws (λk a=>f8 (λe=>(h.wd k a).1 (aj e))),by rw[a.1];exact h.wd⟩
 ·rw[m1];exact h.mr.same (by rw[lA];exact ψ _) (λ_=>f8 p)
 ·rw[j];exact h.ar.same (by rw[lA];exact ψ _) (λ_=>f8 q)
 ·rw[m];exact h.ra.same (by rw[lA];exact ψ _) (λ_=>f8 (bZ d1))
 ·rw[n];exact h.ow.same (by rw[lA];exact ψ _) (λ_=>f8 (bZ d2))
 ·rw[o];exact h.vi.same (by rw[lA];exact ψ _) (λ_=>f8 (bZ d3))
 ·have r:x≠F.g:=λe=>h.nd.env x θ b (aj e)
  obtain⟨e1,e2⟩:=h.env x θ b;exact⟨by rw[lA];exact e1,(Φ (w:=W) (f8 r)).trans e2⟩
theorem ji{b x:Nat}(h:x≠b):∀(vs:List π) (o:Nat) (W:u),(W.setCells b o vs).heap[x]?=W.heap[x]?
 | [],o,W=>rfl
 | v::vs,o,W=>(ji h vs (o+1) _).trans (f8 h)
theorem pN(b:Nat):∀(vs:List π) (o:Nat) (W:u),(W.setCells b o vs).heap.size=W.heap.size
 | [],o,W=>rfl
 | v::vs,o,W=>(pN b vs (o+1) _).trans lA
theorem Bd.puts(h:Bd F W M tk)(i:Nat)(vs:List π)(hi:i+vs.length<=209)(hc:kr (F.cells M tk) i vs=F.cells M' tk')(f:M'.mrom=M.mrom/\M'.arom=M.arom/\M'.ram=M.ram/\M'.own=M.own/\M'.video=M.video)(j:M'.fit)(b:tk'.v=tk.v/\tk'.l=tk.l:=by exact⟨D,D⟩):Bd F (W.setCells F.g i vs) M' tk':=by
 obtain⟨m1,m,n,o,p⟩:=f;obtain⟨d1,d2,d3,_⟩:=h.nd.d;have q:=λe=>h.nd.mr (aj e)
 have r:=λe=>h.nd.ar (aj e)
 have a:W.heap.size<=(W.setCells F.g i vs).heap.size:=cq (pN _ _ _ _).symm;refine⟨hc ▸ h.bx.puts i vs (by rw[F.len];exact hi),?_,?_,?_,?_,?_,λx θ c=>?_,h.nd,j,ax h.big a,by rw[b.1,b.2];exact jr h.ws (λk b=>ji (λe=>(h.wd k b).1 (aj e)) _ _ _),by rw[b.1];exact h.wd⟩
 ·rw[m1];exact h.mr.same a (λ_=>ji q _ _ _)
 ·rw[m];exact h.ar.same a (λ_=>ji r _ _ _)
 ·rw[n];exact h.ra.same a (λ_=>ji (bZ d1) _ _ _)
 ·rw[o];exact h.ow.same a (λ_=>ji (bZ d2) _ _ _)
 ·rw[p];exact h.vi.same a (λ_=>ji (bZ d3) _ _ _)
 ·have s:x≠F.g:=λe=>h.nd.env x θ c (aj e)
  obtain⟨e1,e2⟩:=h.env x θ c;exact⟨Θ e1 a,(Φ (w:=W) (ji s _ _ _)).trans e2⟩
theorem Rw.put{v:π}{k:Nat}{l:List UInt8}(h:Rw W v k l)(i x:Int)(c:0<=i)(hi:i<l.length)(b:0<=x/\x<=255):Rw (W.setCell ⟨k,i.toNat,G⟩ (J au x)) v k (lF l i x):=by
 obtain⟨a,h1,h2,h3⟩:=h.some (by omega);refine ao ⟨a,by rw[wm];exact h1,by rw[wm];exact h2,?_⟩;rw[<- zyD l i x b];exact h3.set _ _ (by rw[znS];omega)
theorem Bd.far(h:Bd F W M tk){b o:Nat}{v:π}(d:b≠F.g)(a:F.T b):Bx (W.setCell ⟨b,o,G⟩ v) F.g (F.cells M tk)/\Rw (W.setCell ⟨b,o,G⟩ v) F.S.mr F.mr M.mrom/\Rw (W.setCell ⟨b,o,G⟩ v) F.S.ar F.ar M.arom /\
 (∀ x θ,F.has x θ->x<(W.setCell ⟨b,o,G⟩ v).heap.size/\(W.setCell ⟨b,o,G⟩ v).cell? ⟨x,0,G⟩=A θ)/\F.B<=(W.setCell ⟨b,o,G⟩ v).heap.size/\(W.setCell ⟨b,o,G⟩ v).ownsRow F.B 104 3 tk.v tk.l.length (oC tk.l):=by
 refine⟨h.bx.far d v,h.mr.same (by rw[lA];exact ψ _) (λ_=>f8 (λe=>h.nd.mr (by rw[e];exact a))),h.ar.same (by rw[lA];exact ψ _) (λ_=>f8 (λe=>h.nd.ar (by rw[e];exact a))),λx θ c=>?_,by rw[lA];exact h.big,jr h.ws (λk f=>f8 (λe=>(h.wd k f).1 (by rw[e];exact a)))⟩;have i:x≠b:=λe=>h.nd.env x θ c (by rw[e];exact a)
 obtain⟨e1,e2⟩:=h.env x θ c;exact⟨by rw[lA];exact e1,(Φ (w:=W) (f8 i)).trans e2⟩
theorem Bd.putRam(h:Bd F W M tk)(i x:Int)(a:0<=i)(hi:i<128)(c:0<=x/\x<=255):Bd F (W.setCell ⟨F.ra,i.toNat,G⟩ (J au x)) { M with ram:=lF M.ram i x } tk:=by
 obtain⟨d1,d2,d3,d4,d5,f⟩:=h.nd.d;obtain⟨a1,a2,a3,a4,a5,e⟩:=h.far (b:=F.ra) (o:=i.toNat) (v:=J au x) (bZ d1) (ao (aj D));exact⟨a1,a2,a3,h.ra.put i x a (by rw[h.fit.ram];exact hi) c,h.ow.same (by rw[lA];exact ψ _) (λ_=>f8 (bZ d4)),h.vi.same (by rw[lA];exact ψ _) (λ_=>f8 (bZ d5)),a4,h.nd,
  { h.fit with ram:=by rw[wm];exact h.fit.ram,main:=h.fit.main,aux:=h.fit.aux,p0:=h.fit.p0,p1:=h.fit.p1,tr:=h.fit.tr,tc:=h.fit.tc,s:=h.fit.s,fr:=h.fit.fr,«to»:=h.fit.to,m0:=h.fit.m0,m1:=h.fit.m1 },a5,e,h.wd⟩
theorem Bd.putOwn(h:Bd F W M tk)(i x:Int)(a:0<=i)(hi:i<64)(c:0<=x/\x<=255):Bd F (W.setCell ⟨F.ow,i.toNat,G⟩ (J au x)) { M with own:=lF M.own i x } tk:=by
 obtain⟨d1,d2,d3,d4,d5,e⟩:=h.nd.d;obtain⟨a1,a2,a3,a4,a5,f⟩:=h.far (b:=F.ow) (o:=i.toNat) (v:=J au x) (bZ d2) (ao (ao (aj D)));exact⟨a1,a2,a3,h.ra.same (by rw[lA];exact ψ _) (λ_=>f8 d4),h.ow.put i x a (by rw[h.fit.own];exact hi) c,h.vi.same (by rw[lA];exact ψ _) (λ_=>f8 (bZ e)),a4,h.nd,
  { h.fit with own:=by rw[wm];exact h.fit.own,main:=h.fit.main,aux:=h.fit.aux,p0:=h.fit.p0,p1:=h.fit.p1,tr:=h.fit.tr,tc:=h.fit.tc,s:=h.fit.s,fr:=h.fit.fr,«to»:=h.fit.to,m0:=h.fit.m0,m1:=h.fit.m1 },a5,f,h.wd⟩
theorem Bd.putVideo(h:Bd F W M tk)(i x:Int)(a:0<=i)(hi:i<256)(c:0<=x/\x<=255):Bd F (W.setCell ⟨F.vi,i.toNat,G⟩ (J au x)) { M with video:=lF M.video i x } tk:=by
 obtain⟨d1,d2,d3,d4,d5,e⟩:=h.nd.d;obtain⟨a1,a2,a3,a4,a5,f⟩:=h.far (b:=F.vi) (o:=i.toNat) (v:=J au x) (bZ d3) (ao (ao (ao D)));exact⟨a1,a2,a3,h.ra.same (by rw[lA];exact ψ _) (λ_=>f8 d5),h.ow.same (by rw[lA];exact ψ _) (λ_=>f8 e),h.vi.put i x a (by rw[h.fit.video];exact hi) c,a4,h.nd,
  { h.fit with video:=by rw[wm];exact h.fit.video,main:=h.fit.main,aux:=h.fit.aux,p0:=h.fit.p0,p1:=h.fit.p1,tr:=h.fit.tr,tc:=h.fit.tc,s:=h.fit.s,fr:=h.fit.fr,«to»:=h.fit.to,m0:=h.fit.m0,m1:=h.fit.m1 },a5,f,h.wd⟩
abbrev Bt(F:Fx)(W w1:u):Prop:=Mv F.B F.T F.T W w1
theorem Bt.kept(h:Bt F W w0)(a:F.B<=w0.heap.size)(hb:Below w0.heap.size w0 w1):Bt F W w1:=Mv.trans h (Mv.of_below a hb)
theorem Bt.set(a:F.nd)(h:Bt F W w0)(i:Nat)(v:π):Bt F W (w0.setCell ⟨F.g,i,G⟩ v):=Mv.setCell h a.lo.1 (aj (aj rfl)) v
theorem Bt.setR(a:F.nd)(h:Bt F W w0)(i:Nat)(v:π):Bt F W (w0.setCell ⟨F.ra,i,G⟩ v):=Mv.setCell h a.lo.2.1 (aj (ao (aj rfl))) v
theorem Bt.setO(a:F.nd)(h:Bt F W w0)(i:Nat)(v:π):Bt F W (w0.setCell ⟨F.ow,i,G⟩ v):=Mv.setCell h a.lo.2.2.1 (aj (ao (ao (aj rfl)))) v
theorem Bt.setV(a:F.nd)(h:Bt F W w0)(i:Nat)(v:π):Bt F W (w0.setCell ⟨F.vi,i,G⟩ v):=Mv.setCell h a.lo.2.2.2 (aj (ao (ao (ao rfl)))) v
theorem Bt.sets(a:F.nd):∀(vs:List π) (i:Nat) (w0:u),Bt F W w0->Bt F W (w0.setCells F.g i vs)
 | [],i,w0,h=>h
 | v::vs,i,w0,h=>Bt.sets a vs (i+1) _ (Bt.set a h i v)
theorem Bt.refl(F:Fx)(W:u):Bt F W W:=Mv.refl _ _ _
def Fx.Tw(F:Fx)(W:u)(k:Nat):Prop:=F.T k \/ ∃ cs fr,W.heap[k]?=A (χ cs 104 fr)
theorem zsW{k:Nat}(e:w1.heap[k]?=W.heap[k]?)(h:F.Tw w1 k):F.Tw W k:=h.imp id (λ⟨cs,fr,x⟩=>⟨cs,fr,e ▸ x⟩)
def Bw(F:Fx)(W w1:u):Prop:=Mv F.B (F.Tw W) (F.Tw w1) W w1
theorem Bt.w(h:Bt F W w1):Bw F W w1:=⟨h.below,λk a b=>h.block k a (λx=>b (aj x)),λk b=>by
 rcases iz k W.heap.size with a|a
 ·by_cases c:F.T k
  ·exact aj (aj c)
  ·exact aj (zsW (h.block k a c) b)
 ·exact ao a⟩
theorem Bw.trans{w2:u}(h:Bw F W w1)(k:Bw F w1 w2):Bw F W w2:=Mv.trans h k
theorem Bw.of_below(hB:F.B<=W.heap.size)(hb:Below W.heap.size W w1):Bw F W w1:=Bt.w (Mv.of_below hB hb)
theorem Bw.grown(h:Bd F W M tk)(d:W.grownBy w1 tk.v.ownBlock):Bw F W w1 :=
 have b:∀ k,k<W.heap.size->¬ F.Tw W k->A k≠tk.v.ownBlock:=λk a c e=>c (ao (by
  rcases h.ws.2 with⟨f,_⟩|⟨g,j,l,f,_,m,_⟩
  ·rw[f] at e;cases e
  ·rw[f] at e;cases e;exact⟨_,_,m⟩))
 ⟨(bq F.B W).grown d h.big (λk a=>(h.ws.lt k a).1),λk a c=>d.block k a (b k a c),λk c=>by
   rcases iz k W.heap.size with a|a
   ·by_cases i:F.Tw W k
    ·exact aj i
    ·exact aj (zsW (d.block k a (b k a i)) c)
   ·exact ao a⟩
theorem tq{l:List Wt}(h:Bd F w1 M tk)(a:l=[])(b:Bt F W w1):(∃ v,Bd F w1 M (tk.app l v))/\Bw F W w1:=⟨⟨tk.v,by rw[a,Tk.app_nil];exact h⟩,b.w⟩
theorem Bd.at(h:Bd F W M tk)(i:Nat)(v:π)(e:(F.cells M tk)[i]?=A v):W.cell? ⟨F.g,i,G⟩=A v:=h.bx.at i v e
end
theorem Az(k n b:Nat)(a:Int)(w:u)(d:0<n)(f:n<=1000)(c:0<=a/\a<=65535):Δ ω 181 #[κ (A ⟨k,0,G⟩) n b,J Y a] w λe w'=>e=μ (pt k (a%n).toNat)/\w=w':=by
 have g:Int.tmod a n=a%n:=ak c.1;have h:0<=a%n:=dL _ (by omega);have h1:a%n<n:=dE _ (by omega);have i:((n:Int) == 0)=ξ:=by simp;omega
 go_enter func181,ntmps181;go_wp2;go_ret;exact⟨D,D⟩
theorem ry(a:Int)(w:u)(b:0<=a/\a<=65535):Δ ω 212 #[J Y a] w λe w'=>e=μ (ν (dP a))/\w=w':=by
 unfold dP;by_cases h:53248<=a
 ·by_cases h2:a<=57343
  ·rw[aO ⟨h,h2⟩]
   go_enter func212,ntmps212;go_wp2;go_ret;exact⟨D,D⟩
  ·rw[aG (λx=>h2 x.2)]
   go_enter func212,ntmps212;go_wp2;go_ret;exact⟨D,D⟩
 ·rw[aG (λx=>h x.1)]
  go_enter func212,ntmps212;go_wp2;go_ret;exact⟨D,D⟩
theorem zjC(n m:Int)(w:u):Δ ω 179 #[J Q n,J Q m] w λe w'=>e=μ (ν (decide (0<=n/\n<=m)))/\w=w':=by
 by_cases h:0<=n
 ·by_cases h2:n<=m
  ·rw[aO ⟨h,h2⟩]
   go_enter func179,ntmps179;go_wp2;go_ret;exact⟨D,D⟩
  ·rw[aG (λx=>h2 x.2)]
   go_enter func179,ntmps179;go_wp2;go_ret;exact⟨D,D⟩
 ·rw[aG (λx=>h x.1)]
  go_enter func179,ntmps179;go_wp2;go_ret;exact⟨D,D⟩
theorem zd2(b:Bool)(n:Int)(w:u):Δ ω 244 #[ν b,J au n] w λe w'=>e=μ (J au (ir b n 0))/\w=w':=by
 cases b;all_goals
  go_enter func244,ntmps244;go_wp2;go_ret;exact⟨D,D⟩
def Fx.memM(F:Fx)(a:Int):π:=if a<32768 then aB G else if a<49152 then pt F.ra ((a-32768)%128).toNat else if a<53248 then pt F.vi ((a-49152)%256).toNat else aB G
def Fx.memA(F:Fx)(M:Mach)(a:Int):π:=if a<32768 then aB G else if a<49152 then pt F.ow ((a-32768)%64).toNat else if a<53248 then (if M.granted then pt F.ra ((a-49152)%128).toNat else aB G) else aB G
section
variable {F : Fx} {W : u} {M : Mach} {tk : Tk}
theorem Bd.ramV(h:Bd F W M tk):∃ a,F.S.ra=κ (A ⟨F.ra,0,G⟩) 128 a/\W.cell? ⟨F.g,32,G⟩=A (κ (A ⟨F.ra,0,G⟩) 128 a)/\Bx W F.ra (gJ M.ram):=by
 obtain⟨a,h1,_,h3⟩:=h.ra.some (by rw[h.fit.ram];omega);rw[h.fit.ram] at h1;exact⟨a,h1,by rw[<- h1];exact h.at 32 _ D,h3⟩
theorem Bd.ownV(h:Bd F W M tk):∃ a,F.S.ow=κ (A ⟨F.ow,0,G⟩) 64 a/\W.cell? ⟨F.g,33,G⟩=A (κ (A ⟨F.ow,0,G⟩) 64 a)/\Bx W F.ow (gJ M.own):=by
 obtain⟨a,h1,_,h3⟩:=h.ow.some (by rw[h.fit.own];omega);rw[h.fit.own] at h1;exact⟨a,h1,by rw[<- h1];exact h.at 33 _ D,h3⟩
theorem Bd.viV(h:Bd F W M tk):∃ a,F.S.vi=κ (A ⟨F.vi,0,G⟩) 256 a/\W.cell? ⟨F.g,34,G⟩=A (κ (A ⟨F.vi,0,G⟩) 256 a)/\Bx W F.vi (gJ M.video):=by
 obtain⟨a,h1,_,h3⟩:=h.vi.some (by rw[h.fit.video];omega);rw[h.fit.video] at h1;exact⟨a,h1,by rw[<- h1];exact h.at 34 _ D,h3⟩
theorem zpX(h:Bd F W M tk)(a:Int)(b:0<=a/\a<=65535):Δ ω 107 #[pt F.g 0,J Y a] W λe w'=>e=μ (F.memM a)/\W=w':=by
 obtain⟨c1,_,e1,_⟩:=h.ramV;obtain⟨c2,_,e2,_⟩:=h.viV;have c:=h.bx.z;clear h;unfold Fx.memM;by_cases h1:a<32768
 ·rw[am h1]
  have k1:¬ 32768<=a:=by omega
  have k2:¬ 49152<=a:=by omega
  go_enter func107,ntmps107;go_wp2;go_ret;exact⟨D,D⟩
 ·rw[ae h1]
  have k1:32768<=a:=by omega
  by_cases h2:a<49152
  ·rw[am h2]
   go_enter func107,ntmps107;go_wp2_with (go_at_call 181;refine(Az F.ra 128 c1 (a-32768) _ (by omega) (by omega) (by omega)).mono ?_;rintro e w1 ⟨rfl,rfl⟩)
   go_ret;exact⟨D,D⟩
  ·rw[ae h2]
   have k2:49152<=a:=by omega
   by_cases h3:a<53248
   ·rw[am h3]
    go_enter func107,ntmps107;go_wp2_with (go_at_call 181;refine(Az F.vi 256 c2 (a-49152) _ (by omega) (by omega) (by omega)).mono ?_;rintro e w1 ⟨rfl,rfl⟩)
    go_ret;exact⟨D,D⟩
   ·rw[ae h3]
    go_enter func107,ntmps107;go_wp2;go_ret;exact⟨D,D⟩
theorem zpY(h:Bd F W M tk)(a:Int)(c:0<=a/\a<=65535):Δ ω 109 #[pt F.g 0,J Y a] W λe w'=>e=μ (F.memA M a)/\W=w':=by
 obtain⟨c1,_,e1,_⟩:=h.ramV;obtain⟨c2,_,e2,_⟩:=h.ownV;have d:=h.bx.z;have e3:=h.at 67 (ν M.granted) D;clear h;unfold Fx.memA;generalize M.granted=b at *;by_cases h1:a<32768
 ·rw[am h1]
  have k1:¬ 32768<=a:=by omega
  have k2:¬ 49152<=a:=by omega
  go_enter func109,ntmps109;go_wp2;go_ret;exact⟨D,D⟩
 ·rw[ae h1]
  have k1:32768<=a:=by omega
  by_cases h2:a<49152
  ·rw[am h2]
   go_enter func109,ntmps109;go_wp2_with (go_at_call 181;refine(Az F.ow 64 c2 (a-32768) _ (by omega) (by omega) (by omega)).mono ?_;rintro e w1 ⟨rfl,rfl⟩)
   go_ret;exact⟨D,D⟩
  ·rw[ae h2]
   have k2:49152<=a:=by omega
   by_cases h3:a<53248
   ·rw[am h3]
    cases b
    ·go_enter func109,ntmps109
     go_wp2;go_ret;exact⟨D,D⟩
    ·go_enter func109,ntmps109
     go_wp2_with (go_at_call 181;refine(Az F.ra 128 c1 (a-49152) _ (by omega) (by omega) (by omega)).mono ?_;rintro e w1 ⟨rfl,rfl⟩)
     go_ret;exact⟨D,D⟩
   ·rw[ae h3]
    go_enter func109,ntmps109;go_wp2;go_ret;exact⟨D,D⟩
end
section
variable {F : Fx} {W : u} {M : Mach} {tk : Tk}
theorem Bd.mrV(h:Bd F W M tk):∃ b a,F.S.mr=κ b M.mrom.length a/\W.cell? ⟨F.g,30,G⟩=A (κ b M.mrom.length a)/\(0<M.mrom.length->b=A ⟨F.mr,0,G⟩/\Bx W F.mr (gJ M.mrom)):=by
 have hc:=h.at 30 F.S.mr D;rcases h.mr with⟨e,c⟩|⟨a,e,_,hb⟩
 ·exact⟨G,0,by rw[e,c];rfl,by rw[hc,e,c];rfl,by rw[c];simp⟩
 ·exact⟨_,a,e,by rw[hc,e],λ_=>⟨D,hb⟩⟩
theorem Bd.arV(h:Bd F W M tk):∃ b a,F.S.ar=κ b M.arom.length a/\W.cell? ⟨F.g,31,G⟩=A (κ b M.arom.length a)/\(0<M.arom.length->b=A ⟨F.ar,0,G⟩/\Bx W F.ar (gJ M.arom)):=by
 have hc:=h.at 31 F.S.ar D;rcases h.ar with⟨e,c⟩|⟨a,e,_,hb⟩
 ·exact⟨G,0,by rw[e,c];rfl,by rw[hc,e,c];rfl,by rw[c];simp⟩
 ·exact⟨_,a,e,by rw[hc,e],λ_=>⟨D,hb⟩⟩
theorem Bd.ramAt(h:Bd F W M tk)(i:Int)(a:0<=i)(hi:i<128):W.cell? ⟨F.ra,i.toNat,G⟩=A (J au (mq M.ram i))/\F.ra<W.heap.size/\W.frozen? ⟨F.ra,i.toNat,G⟩=ξ:=by
 obtain⟨_,_,_,hb⟩:=h.ramV;exact⟨hb.at _ _ (wV _ i a (by rw[h.fit.ram];exact hi)),hb.z,hb.f _⟩
theorem Bd.ownAt(h:Bd F W M tk)(i:Int)(a:0<=i)(hi:i<64):W.cell? ⟨F.ow,i.toNat,G⟩=A (J au (mq M.own i))/\F.ow<W.heap.size/\W.frozen? ⟨F.ow,i.toNat,G⟩=ξ:=by
 obtain⟨_,_,_,hb⟩:=h.ownV;exact⟨hb.at _ _ (wV _ i a (by rw[h.fit.own];exact hi)),hb.z,hb.f _⟩
theorem Bd.viAt(h:Bd F W M tk)(i:Int)(a:0<=i)(hi:i<256):W.cell? ⟨F.vi,i.toNat,G⟩=A (J au (mq M.video i))/\F.vi<W.heap.size/\W.frozen? ⟨F.vi,i.toNat,G⟩=ξ:=by
 obtain⟨_,_,_,hb⟩:=h.viV;exact⟨hb.at _ _ (wV _ i a (by rw[h.fit.video];exact hi)),hb.z,hb.f _⟩
theorem zgf(h:Bd F W M tk)(a:Int)(d:0<=a/\a<=65535):Δ ω 214 #[pt F.g 77,J Y a] W λe w'=>e=μ (J au (M.lookM a))/\W=w':=by
 obtain⟨o,j,_,k,c⟩:=h.mrV;have p:=h.bx.z;have l:=h.at 77 (pt F.g 30) D;have m:=h.at 78 (ik 107 F.g 0) D;have n:=h.fit.mrom;have b:=hid (zpX h a d);have H:=hid h;clear h;unfold Mach.lookM mM;unfold Fx.memM at b;by_cases h1:a<32768
 ·rw[am h1]
  rw[am h1] at b;by_cases h2:a<M.mrom.length
  ·rw[am h2]
   obtain⟨rfl,hb⟩:=c (by omega);have f:=hb.at _ _ (wV _ a d.1 h2);have i:=hb.z;clear c;go_enter func214,ntmps214;go_wp2;go_ret;exact⟨D,D⟩
  ·rw[ae h2]
   clear c;go_enter func214,ntmps214;go_wp2_with (go_at_call 107;refine b.out.mono ?_;rintro e w1 ⟨rfl,rfl⟩)
   go_ret;exact⟨D,D⟩
 ·rw[ae h1]
  rw[ae h1] at b;by_cases h2:a<49152
  ·rw[am h2]
   rw[am h2] at b;obtain⟨f,i,_⟩:=H.out.ramAt ((a-32768)%128) (by omega) (by omega);clear c;go_enter func214,ntmps214;go_wp2_with (go_at_call 107;refine b.out.mono ?_;rintro e w1 ⟨rfl,rfl⟩)
   go_ret;exact⟨D,D⟩
  ·rw[ae h2]
   rw[ae h2] at b;by_cases h3:a<53248
   ·rw[am h3]
    rw[am h3] at b;obtain⟨f,i,_⟩:=H.out.viAt ((a-49152)%256) (by omega) (by omega);clear c;go_enter func214,ntmps214;go_wp2_with (go_at_call 107;refine b.out.mono ?_;rintro e w1 ⟨rfl,rfl⟩)
    go_ret;exact⟨D,D⟩
   ·rw[ae h3]
    rw[ae h3] at b;clear c;go_enter func214,ntmps214;go_wp2_with (go_at_call 107;refine b.out.mono ?_;rintro e w1 ⟨rfl,rfl⟩)
    go_ret;exact⟨D,D⟩
end
abbrev vG:π:=(ac #[.func (.func 346) #[] #[],.func (.func 348) #[] #[],.func (.func 350) #[] #[],.func (.func 351) #[] #[],.func (.func 352) #[] #[],.func (.func 345) #[] #[],.func (.func 345) #[] #[],.func (.func 345) #[] #[]])
def PortC(k g:Nat):Prop:=∀(v:Vc) (b:Int) (w:u),v.ok->0<=b/\b<=255->Δ ω g #[(ac #[J Y v.p,J Y v.c,J au v.l,ν v.h,J Y v.n]),J au b] w λe w'=>e=μ (ac #[J Y (v.put k b).p,J Y (v.put k b).c,J au (v.put k b).l,ν (v.put k b).h,J Y (v.put k b).n])/\Below w.heap.size w w'
theorem zwz(k:Nat)(c:k<8):∃ g:Nat,(∀(a:Array π) (w:u),(callFunc g a).run ω w=.ok (.enter g a) w)/\(∀ w:u,(Instr.index 357 vG (J Q k)).run ω w=.ok (.func (.func g) #[] #[]) w)/\PortC k g:=by
 have hc:k=0 \/ k=1 \/ k=2 \/ k=3 \/ k=4 \/ k=5 \/ k=6 \/ k=7:=by omega
 rcases hc with rfl|rfl|rfl|rfl|rfl|rfl|rfl|rfl
 ·exact⟨346,λ_ _=>D,λw=>zwo _ _ _ _ _ _ _ _ w,zAp⟩
 ·exact⟨348,λ_ _=>D,λw=>zwp _ _ _ _ _ _ _ _ w,zAq⟩
 ·exact⟨350,λ_ _=>D,λw=>zwq _ _ _ _ _ _ _ _ w,zAr⟩
 ·exact⟨351,λ_ _=>D,λw=>zwr _ _ _ _ _ _ _ _ w,zAs⟩
 ·exact⟨352,λ_ _=>D,λw=>zws _ _ _ _ _ _ _ _ w,zAt⟩
 ·exact⟨345,λ_ _=>D,λw=>zwt _ _ _ _ _ _ _ _ w,λv b w _ _=>zww v b w⟩
 ·exact⟨345,λ_ _=>D,λw=>zwu _ _ _ _ _ _ _ _ w,λv b w _ _=>zwx v b w⟩
 ·exact⟨345,λ_ _=>D,λw=>zwv _ _ _ _ _ _ _ _ w,λv b w _ _=>zwy v b w⟩
theorem zy5(s:Sd)(k:Nat)(b:Int)(w:u)(P:k<24)(h:s.ok)(hb:0<=b/\b<=255):Δ ω 247 #[ac (lz s).toArray,J Q k,J au b] w λe w'=>e=μ (Ψ #[ac (lz (s.put k b)).toArray,J Q 0])/\Below w.heap.size w w':=by
 obtain⟨r,o⟩:∃ r,r=s.put k b:=⟨_,D⟩
 rw[<- o];obtain⟨j,R,p,T⟩:∃ j:Nat,k%8=j/\j<8/\(((k:Int)/8=0/\r=⟨s.a.put j b,s.b,s.c,s.w⟩) \/ ((k:Int)/8=1/\r=⟨s.a,s.b.put j b,s.c,s.w⟩) \/ ((k:Int)/8=2/\r=⟨s.a,s.b,s.c.put j b,s.w⟩)):=by
  refine⟨k%8,D,by omega,?_⟩;by_cases z:k<8
  ·exact aj ⟨by omega,o.trans (am z)⟩
  ·by_cases hc:k<16
   ·exact ao (aj ⟨by omega,o.trans ((ae z).trans (am hc))⟩)
   ·exact ao (ao ⟨by omega,o.trans ((ae z).trans (ae hc))⟩)
 obtain⟨g,U,B,q⟩:=zwz j p;unfold vG at B;have m:=hid q;have t:(0:Int)<=(k:Int):=by omega
 have M:(k:Int)<24:=by omega
 have V:(0:Int)<=j:=by omega
 have N:(j:Int)<8:=by omega
 have E:(k:Int)%8=j:=by omega
 have X:Int.tmod (k:Int) 8=j:=by rw[ak t];exact E
 clear q o R p P;rcases T with⟨n,e⟩|⟨n,e⟩|⟨n,e⟩
 all_goals
  have Z:=(aF t (b:=8)).trans n;have HR:=hid e;clear e;go_enter func247,ntmps247;go_upto_region 4 with fail
  go_cut [] (λwx=>SmW w r [] (κ G 0 0) wx)
  case first =>
   refine Pl.cutW (SmW w s [] (κ G 0 0)) (SmW.two w s) ?_;intro W x;have HW:=hid x;obtain⟨c0,c1,c2,c3,c4,tz,tf⟩:=x.b.w0;obtain⟨c5,c6,c7,c8,c9,-,-⟩:=x.b.w1;obtain⟨b0,b1,b2,b3,b4,-,-⟩:=x.b.w2;clear x;go_region_with (first
    | (go_at_call 281;refine(zsU _).mono ?_;rintro e w1 ⟨rfl,F⟩;have f:=hid (HW.out.drew.kept F);obtain⟨d0,d1,d2,d3,d4,dz,df⟩:=f.out.b.w0;obtain⟨d5,d6,d7,d8,d9,-,-⟩:=f.out.b.w1;obtain⟨a0,a1,a2,a3,a4,-,-⟩:=f.out.b.w2)
    | ((first|refine(m.out s.a b _ h.a hb).mono ?_|refine(m.out s.b b _ h.b hb).mono ?_|refine(m.out s.c b _ h.c hb).mono ?_);rintro e w2 ⟨rfl,H⟩;have d:=hid (f.out.kept H);obtain⟨e0,e1,e2,e3,e4,ez,ef⟩:=d.out.b.w0;obtain⟨e5,e6,e7,e8,e9,-,-⟩:=d.out.b.w1;obtain⟨f0,f1,f2,f3,f4,-,-⟩:=d.out.b.w2))
   all_goals (go_wp2_with fail;go_meet)
   all_goals (rw[HR.out];first|exact d.out.v0 _|exact d.out.v1 _|exact d.out.v2 _)
  case rest =>
   have y:=hid hcut;clear hcut;go_wp2_with (first
    | (refine wpList_load_mid D 36 _ D w.heap.size 0 D (lz r) _ y.out.b.c underlying36 D nh ?_)
    | (refine wpList_store_mid D 36 _ _ D (w.heap.size+1) 0 _ D D (nJ y.out.r) nh (kH _) ?_
       refine Pl.cutL (λW=>Below w.heap.size w W/\Bx W (w.heap.size+1) (lz r)) ⟨?_,?_⟩ ?_
       ·exact Bl.puts y.out.low (fH _) _
       ·exact y.out.r.puts 0 (lz r) (by simp)
       rintro W ⟨i,l⟩;have I:=hid i;have L:=hid l;clear i l))
   have hl:=pR L.out;refine Ξ (v:=Ψ #[ac (lz r).toArray,J Q 0]) ?_ D ⟨D,I.out⟩;simp only[results,results247];simp;show (Result.andThen (Sem.run ω (loadVar 36 ⟨w.heap.size+1,0,G⟩) W) _)=_;rw[hl];rfl
section
variable {F : Fx} {W : u} {M : Mach} {tk : Tk}
theorem Bd.at2(h:Bd F W M tk)(n:Nat)(v:π)(e:F.sideA[n]?=A v):W.cell? ⟨F.g,143+n,G⟩=A v:=by
 have a:F.sideM.length=66:=by unfold Fx.sideM;rw[az,se];rfl
 exact h.at _ _ (znT (υ M F.S) [J Q tk.n,tk.v] [] F.sideA F.sideM 75 2 0 66 n v (dG M F.S) D a D e)
theorem zlw(h:Bd F W M tk)(a:Int)(f:0<=a/\a<=65535):Δ ω 214 #[pt F.g 143,J Y a] W λe w'=>e=μ (J au (M.lookA a))/\W=w':=by
 obtain⟨p,k,_,l,c⟩:=h.arV;have q:=h.bx.z;have m:=h.at2 0 (pt F.g 31) D;have n:=h.at2 1 (ik 109 F.g 0) D;have o:=h.fit.arom;have b:=hid (zpY h a f);have H:=hid h;clear h;unfold Mach.lookA mM;unfold Fx.memA at b;by_cases h1:a<32768
 ·rw[am h1]
  rw[am h1] at b;by_cases h2:a<M.arom.length
  ·rw[am h2]
   obtain⟨rfl,hb⟩:=c (by omega);have i:=hb.at _ _ (wV _ a f.1 h2);have j:=hb.z;clear c;go_enter func214,ntmps214;go_wp2;go_ret;exact⟨D,D⟩
  ·rw[ae h2]
   clear c;go_enter func214,ntmps214;go_wp2_with (go_at_call 109;refine b.out.mono ?_;rintro e w1 ⟨rfl,rfl⟩)
   go_ret;exact⟨D,D⟩
 ·rw[ae h1]
  rw[ae h1] at b;by_cases h2:a<49152
  ·rw[am h2]
   rw[am h2] at b;obtain⟨i,j,_⟩:=H.out.ownAt ((a-32768)%64) (by omega) (by omega);clear c;go_enter func214,ntmps214;go_wp2_with (go_at_call 109;refine b.out.mono ?_;rintro e w1 ⟨rfl,rfl⟩)
   go_ret;exact⟨D,D⟩
  ·rw[ae h2]
   rw[ae h2] at b;by_cases h3:a<53248
   ·rw[am h3]
    rw[am h3] at b;obtain⟨i,j,_⟩:=H.out.ramAt ((a-49152)%128) (by omega) (by omega);clear c;cases d:M.granted
    ·rw[d] at b
     go_enter func214,ntmps214;go_wp2_with (go_at_call 109;refine b.out.mono ?_;rintro e w1 ⟨rfl,rfl⟩)
     go_ret;exact⟨D,D⟩
    ·rw[d] at b
     go_enter func214,ntmps214;go_wp2_with (go_at_call 109;refine b.out.mono ?_;rintro e w1 ⟨rfl,rfl⟩)
     go_ret;exact⟨D,D⟩
   ·rw[ae h3]
    rw[ae h3] at b;clear c;go_enter func214,ntmps214;go_wp2_with (go_at_call 109;refine b.out.mono ?_;rintro e w1 ⟨rfl,rfl⟩)
    go_ret;exact⟨D,D⟩
def Be(F:Fx)(M:Mach)(tk:Tk)(i:Nat):Prop:=∀ W,Bd F W M tk->Δ ω 213 #[ac #[F.rdM i,F.wrM i]] W λe w'=>e=μ (J au (M.portM i).1)/\Bd F w' (M.portM i).2 tk/\Bt F W w'
def Bf(F:Fx)(M:Mach)(tk:Tk)(i:Nat):Prop:=∀ W,Bd F W M tk->Δ ω 213 #[ac #[F.rdA i,F.wrA i]] W λe w'=>e=μ (J au (M.portA i).1)/\Bd F w' (M.portA i).2 tk/\Bt F W w'
def Bg(F:Fx)(M:Mach)(tk:Tk)(i:Nat)(n:Int):Prop:=∀ W,Bd F W M tk->Δ ω 215 #[ac #[F.rdM i,F.wrM i],J au n] W λe w'=>e=μ (Ψ #[])/\Bd F w' (M.putM i n) (tk.add (ph i n))/\Bt F W w'
def Bh(F:Fx)(M:Mach)(tk:Tk)(i:Nat)(n:Int):Prop:=∀ W,Bd F W M tk->Δ ω 215 #[ac #[F.rdA i,F.wrA i],J au n] W λe w'=>e=μ (Ψ #[])/\(∃ v,Bd F w' (M.putA i n) (tk.app (shown M.clock i n) v))/\Bw F W w'
theorem Bd.pM(h:Bd F W M tk)(i:Nat)(hi:i<32):W.cell? ⟨F.g,79+i*2,G⟩=A (F.rdM i)/\W.cell? ⟨F.g,79+i*2+1,G⟩=A (F.wrM i):=by
 obtain⟨h1,h2⟩:=F.portM M tk i hi;rw[iw i 2];exact⟨h.at _ _ h1,h.at _ _ h2⟩
theorem Bd.pA(h:Bd F W M tk)(i:Nat)(hi:i<32):W.cell? ⟨F.g,145+i*2,G⟩=A (F.rdA i)/\W.cell? ⟨F.g,145+i*2+1,G⟩=A (F.wrA i):=by
 obtain⟨h1,h2⟩:=F.portA M tk i hi;rw[iw i 2];exact⟨h.at _ _ h1,h.at _ _ h2⟩
theorem ztt(h:Bd F W M tk)(a:Int)(d:0<=a/\a<=65535)(hp:∀ i,i<32->Be F M tk i):Δ ω 132 #[pt F.g 77,J Y a] W λe w'=>e=μ (J au (M.rdM a).1)/\Bd F w' (M.rdM a).2 tk/\Bt F W w':=by
 unfold Mach.rdM;cases f:dP a
 ·have m:=hid (zgf h a d)
  have b:=hid f;have H:=hid h;clear h f hp;go_enter func132,ntmps132;go_wp2_with (first
   | (go_at_call 212;refine(ry a _ d).mono ?_;rw[b.out];rintro e w1 ⟨rfl,rfl⟩)
   | (go_at_call 214;refine m.out.mono ?_;rintro e w1 ⟨rfl,rfl⟩))
  go_ret;exact⟨D,H.out,Bt.refl _ _⟩
 ·obtain⟨n,o⟩:∃ n:Nat,a%32=n:=⟨(a%32).toNat,by omega⟩
  have c:n<32:=by omega
  have r:Int.tmod a 32=n:=by rw[ak d.1,o]
  have p:=hid (hp n c W h);have b:=hid f;have l:portNo a=n:=by unfold portNo;omega
  rw[l];obtain⟨c0,c1⟩:=h.pM n c;have s:=h.bx.z;have q:(n:Int)<32:=by omega
  clear h f hp l;generalize F.rdM n=t at *;generalize F.wrM n=vw at *;go_enter func132,ntmps132;go_wp2_with (first
   | (go_at_call 212;refine(ry a _ d).mono ?_;rw[b.out];rintro e w1 ⟨rfl,rfl⟩)
   | (go_at_call 213;refine p.out.mono ?_;rintro e w1 ⟨rfl,j,k⟩))
  go_ret;exact⟨D,j,k⟩
end
section
variable {F : Fx} {W : u} {M M' : Mach} {tk : Tk}
theorem Mach.fit.of{M M':Mach}(h:M.fit)(c:M'.ok)(d:M'.mrom=M.mrom/\M'.arom=M.arom/\M'.ram.length=M.ram.length/\M'.own.length=M.own.length/\M'.video.length=M.video.length)(g:M'.s.w=M.s.w)(hb:M'.b.l=M.b.l/\M'.b.a=M.b.a/\M'.b.f=M.b.f)(hc:M'.clock=M.clock/\M'.mready=M.mready)(i:M'.aready=M.aready \/ M'.aready=M.clock):M'.fit:=by
 obtain⟨l1,l2,l3,j,k⟩:=d;obtain⟨b1,b2,b3⟩:=hb;obtain⟨c1,c2⟩:=hc;refine⟨c,?_,?_,?_,?_,?_,?_,?_,?_,?_,?_⟩
 ·rw[l1];exact h.mrom
 ·rw[l2];exact h.arom
 ·rw[l3];exact h.ram
 ·rw[j];exact h.own
 ·rw[k];exact h.video
 ·rw[g];exact h.w
 ·rw[b1,b2,b3];exact h.b
 ·rw[c1];exact h.clock
 ·rw[c1,c2];exact h.mready
 ·rw[c1]
  have:=h.clock;rcases i with e|e
  ·rw[e];exact h.aready
  ·rw[e];omega
theorem zm{w b:Int}(a:je w)(hb:0<=b/\b<=255):je (sW w b):=by unfold je sW at *;omega
theorem zn{w b:Int}(a:je w)(hb:0<=b/\b<=255):je (tI w b):=by unfold je tI at *;omega
theorem AA{W:u}{b o x i:Nat}{v θ:π}(a:x≠b)(h:W.cell? ⟨x,i,G⟩=A θ):(W.setCell ⟨b,o,G⟩ v).drew.cell? ⟨x,i,G⟩=A θ:=(Φ (w:=W) (f8 (o:=o) (v:=v) a)).trans h
theorem zgg(h:Bd F W M tk)(x o:Nat)(a n:Int)(d:F.has x (pt F.g o))(hc:(F.cells M tk)[o]?=A (J Y a))(b:je a)(k:0<=n/\n<=255)(l:o<209)
 (i:(F.cells M tk).set o (J Y (sW a n))=F.cells M' tk) (j:M'.mrom=M.mrom/\M'.arom=M.arom/\M'.ram=M.ram/\M'.own=M.own/\M'.video=M.video) (m:M'.fit) :
 Δ ω 242 #[J au n,pt x 0] W λe w'=>e=μ (Ψ #[])/\Bd F w' M' tk/\Bt F W w':=by
 have c1:=h.at o _ hc;have f1:=h.bx.f o;have r:=h.bx.z;obtain⟨s,e1⟩:=h.env _ _ d;have c:x≠F.g:=λe=>h.nd.env _ _ d (aj e)
 have H:=hid h;have p:=hid i;have q:=hid j;clear h i j;go_enter func242,ntmps242;go_wp2_with (go_at_call 209;refine(zcU a _ b).mono ?_;rintro e w1 ⟨rfl,rfl⟩)
 go_region_held3 (λw'=>w'.cell? ⟨x,0,G⟩=A (pt F.g o))
  ((first|(with_reducible exact AA c e1)|(go_keep;done)))
  ((go_at_call 211;refine(As n (a%256) _ k (by omega)).mono ?_;rintro e w1 ⟨rfl,rfl⟩))
 go_wp2;go_end0;exact⟨D,(H.out.put o _ l p.out q.out m).drew,((Bt.refl _ _).set H.out.nd _ _).drew⟩
theorem zjD(h:Bd F W M tk)(x o:Nat)(a n:Int)(d:F.has x (pt F.g o))(hc:(F.cells M tk)[o]?=A (J Y a))(b:je a)(k:0<=n/\n<=255)(l:o<209)
 (i:(F.cells M tk).set o (J Y (tI a n))=F.cells M' tk) (j:M'.mrom=M.mrom/\M'.arom=M.arom/\M'.ram=M.ram/\M'.own=M.own/\M'.video=M.video) (m:M'.fit) :
 Δ ω 243 #[J au n,pt x 0] W λe w'=>e=μ (Ψ #[])/\Bd F w' M' tk/\Bt F W w':=by
 have c1:=h.at o _ hc;have f1:=h.bx.f o;have r:=h.bx.z;obtain⟨s,e1⟩:=h.env _ _ d;have c:x≠F.g:=λe=>h.nd.env _ _ d (aj e)
 have H:=hid h;have p:=hid i;have q:=hid j;clear h i j;go_enter func243,ntmps243;go_wp2_with (go_at_call 209;refine(zcU a _ b).mono ?_;rintro e w1 ⟨rfl,rfl⟩)
 go_region_held3 (λw'=>w'.cell? ⟨x,0,G⟩=A (pt F.g o))
  ((first|(with_reducible exact AA c e1)|(go_keep;done)))
  ((go_at_call 211;refine(As (a/256) n _ (by unfold je at b;omega) k).mono ?_;rintro e w1 ⟨rfl,rfl⟩))
 go_wp2;go_end0;exact⟨D,(H.out.put o _ l p.out q.out m).drew,((Bt.refl _ _).set H.out.nd _ _).drew⟩
theorem zty(h:Bd F W M tk)(n:Int):Δ ω 191 #[pt F.g 0,J au n] W λe w'=>e=μ (Ψ #[])/\Bd F w' (M.putM 8 n) tk/\Bt F W w':=by
 have c2:=h.at 63 (ν M.b.g) D;have c3:=h.bx.f 63;have a:=h.bx.z;have H:=hid h;clear h;go_enter func191,ntmps191;go_wp2;go_end0;exact⟨D,H.out.put 63 _ (by omega) D ⟨D,D,D,D,D⟩ { H.out.fit with main:=H.out.fit.main },(Bt.refl _ _).set H.out.nd _ _⟩
theorem ztz(h:Bd F W M tk)(n:Int)(b:0<=n/\n<=255):Δ ω 196 #[pt F.g 0,J au n] W λe w'=>e=μ (Ψ #[])/\Bd F w' (M.putM 17 n) tk/\Bt F W w':=by
 have c2:=h.at 71 (ν M.rung) D;have c3:=h.bx.f 71;have c4:=h.at 69 (J au M.m0) D;have c5:=h.bx.f 69;have c:=h.bx.z;have H:=hid h;clear h;go_enter func196,ntmps196;go_wp2;go_end0;have a:Mach.fit { M with m0:=n }:={ H.out.fit with main:=H.out.fit.main,m0:=b }
 exact⟨D,(H.out.put (M':={ M with m0:=n }) (tk':=tk) 69 _ (by omega) D ⟨D,D,D,D,D⟩ a).put 71 _ (by omega) D ⟨D,D,D,D,D⟩ { a with main:=a.main },((Bt.refl _ _).set H.out.nd _ _).set H.out.nd _ _⟩
theorem ztA(h:Bd F W M tk)(n:Int)(a:0<=n/\n<=255):Δ ω 198 #[J au n,pt F.E.ab 0] W λe w'=>e=μ (Ψ #[])/\Bd F w' { M with m1:=n } tk/\Bt F W w':=by
 have c2:=h.at 70 (J au M.m1) D;have c3:=h.bx.f 70;have b:=h.bx.z;obtain⟨c,e1⟩:=h.env _ _ .ab;have H:=hid h;clear h;go_enter func198,ntmps198;go_wp2;go_end0;exact⟨D,H.out.put 70 _ (by omega) D ⟨D,D,D,D,D⟩ { H.out.fit with main:=H.out.fit.main,m1:=a },(Bt.refl _ _).set H.out.nd _ _⟩
end
def vd(F:Fx)(W w':u)(M:Mach)(tk:Tk)(l:List Wt):Prop:=(∃ v,Bd F w' M (tk.app l v))/\Bw F W w'
theorem zgi(g o:Nat)(w:u):Δ ω 184 #[pt g o] w λe w'=>e=μ (fh 242 #[pt w.heap.size 0])/\w'=w.alloc (χ #[pt g o] 265):=by
 go_enter func184,ntmps184;go_wp2;go_ret;exact⟨D,D⟩
theorem zjL(g o:Nat)(w:u):Δ ω 185 #[pt g o] w λe w'=>e=μ (fh 243 #[pt w.heap.size 0])/\w'=w.alloc (χ #[pt g o] 265):=by
 go_enter func185,ntmps185;go_wp2;go_ret;exact⟨D,D⟩
theorem zp0(g:Nat)(i:Int)(w:u):Δ ω 182 #[pt g 0,J Q i] w λe w'=>e=μ (fh 239 #[pt w.heap.size 0,pt (w.heap.size+1) 0])/\w'=(w.alloc (χ #[pt g 0] 89)).alloc (χ #[J Q i] 3):=by
 go_enter func182,ntmps182;go_wp2;go_ret;exact⟨D,D⟩
theorem zrt(g:Nat)(i:Int)(w:u):Δ ω 199 #[pt g 0,J Q i] w λe w'=>e=μ (fh 246 #[pt w.heap.size 0,pt (w.heap.size+1) 0])/\w'=(w.alloc (χ #[pt g 0] 89)).alloc (χ #[J Q i] 3):=by
 go_enter func199,ntmps199;go_wp2;go_ret;exact⟨D,D⟩
theorem zy:(Tryz.prog.info? 138).map (·.size)=A 64:=by kernel_rfl
structure Gx where
 B:Nat
 g:Nat
 mr:Nat
 ar:Nat
 ra:Nat
 ow:Nat
 vi:Nat
 S:Sl
def Gx.T(F:Gx)(x:Nat):Prop:=x=F.g \/ x=F.ra \/ x=F.ow \/ x=F.vi
def Gx.cells(F:Gx)(M:Mach)(tk:Tk):List π:=υ M F.S++[tk.v,J Q tk.n]
theorem Gx.len(F:Gx)(M:Mach)(tk:Tk):(F.cells M tk).length=77:=rfl
structure Gx.nd (F : Gx) : Prop where
 lo:F.B<=F.g/\F.B<=F.ra/\F.B<=F.ow/\F.B<=F.vi
 d:F.g≠F.ra/\F.g≠F.ow/\F.g≠F.vi/\F.ra≠F.ow/\F.ra≠F.vi/\F.ow≠F.vi
def Gx.apart(F:Gx)(M:Mach)(T:Nat->Prop):Prop:=(0<M.mrom.length->∀ k,F.S.mr.ownBlock=A k->¬ T k)/\(0<M.arom.length->∀ k,F.S.ar.ownBlock=A k->¬ T k)
theorem Gx.apart_of{F:Gx}{M M':Mach}{T:Nat->Prop}(h:F.apart M T)(h1:M'.mrom=M.mrom)(h2:M'.arom=M.arom):F.apart M' T:=by unfold Gx.apart;rw[h1,h2];exact h
structure Gd (F : Gx) (W : u) (M : Mach) (tk : Tk) : Prop where
 bx:Bx W F.g (F.cells M tk)
 mr:sliceAt W F.S.mr M.mrom
 ar:sliceAt W F.S.ar M.arom
 ra:Rw W F.S.ra F.ra M.ram
 ow:Rw W F.S.ow F.ow M.own
 vi:Rw W F.S.vi F.vi M.video
 nd:F.nd
 fit:M.fit
 big:F.B<=W.heap.size
 ws:W.ownsRow F.B 104 3 tk.v tk.l.length (oC tk.l)
 rd:F.apart M F.T
 wd:∀ k,tk.v.ownBlock=A k->¬ F.T k/\F.apart M (λj=>j=k)
theorem sliceAt.lt{W:u}{v:π}{l:List UInt8}(h:sliceAt W v l)(b:0<l.length):∀ j,v.ownBlock=A j->j<W.heap.size:=λj e=>by
 rcases h with⟨a,c,h1,h2⟩|⟨g,o,d,h1,h2,h3,h4⟩
 ·rw[h2] at b;simp at b
 ·rw[h1] at e;cases e;exact h3
theorem sliceAt.same{W w1:u}{v:π}{l:List UInt8}(h:sliceAt W v l)(d:W.heap.size<=w1.heap.size)(e:0<l.length->∀ k,v.ownBlock=A k->k<W.heap.size->w1.heap[k]?=W.heap[k]?):sliceAt w1 v l:=by
 rcases h with h|⟨g,o,a,h1,h2,h3,h4⟩
 ·exact aj h
 ·exact ao ⟨g,o,a,h1,h2,Θ h3 d,λj c b=>(Φ (w:=W) (e (iC (bh _) (ay.1 b).1) g (by rw[h1];rfl) h3)).trans (h4 j c b)⟩
section
variable {F : Gx} {W w0 w1 : u} {M M' : Mach} {tk tk' : Tk}
theorem Gd.kept(h:Gd F W M tk)(hb:Below W.heap.size W w1):Gd F w1 M tk :=
 ⟨h.bx.kept hb,h.mr.same hb.size (λ_ k _ a=>hb.block _ a),h.ar.same hb.size (λ_ k _ a=>hb.block _ a),h.ra.same hb.size (λa=>hb.block _ a),h.ow.same hb.size (λa=>hb.block _ a),h.vi.same hb.size (λa=>hb.block _ a),
   h.nd,h.fit,ax h.big hb.size,jr h.ws (λk a=>hb.block k (h.ws.lt k a).2),h.rd,h.wd⟩
theorem Gd.over(h:Gd F W M tk)(o:Obj):Gd F (W.alloc o) M tk:=h.kept (stA (aR W) o)
theorem Gd.drew(h:Gd F W M tk):Gd F W.drew M tk:=h.kept (aR W).drew
theorem Gd.at(h:Gd F W M tk)(i:Nat)(v:π)(e:(F.cells M tk)[i]?=A v):W.cell? ⟨F.g,i,G⟩=A v:=h.bx.at i v e
theorem Gd.put(h:Gd F W M tk)(i:Nat)(v:π)(hi:i<77)(hc:(F.cells M tk).set i v=F.cells M' tk')(f:M'.mrom=M.mrom/\M'.arom=M.arom/\M'.ram=M.ram/\M'.own=M.own/\M'.video=M.video)(j:M'.fit)(a:tk'.v=tk.v/\tk'.l=tk.l:=by exact⟨D,D⟩):Gd F (W.setCell ⟨F.g,i,G⟩ v) M' tk':=by
 obtain⟨m1,c,m,n,o⟩:=f;obtain⟨d1,d2,d3,_⟩:=h.nd.d;have b:W.heap.size<=(W.setCell ⟨F.g,i,G⟩ v).heap.size:=by rw[lA];exact ψ _
 refine⟨hc ▸ h.bx.set i v (by rw[F.len];exact hi),?_,?_,?_,?_,?_,h.nd,j,by rw[lA];exact h.big,by rw[a.1,a.2];exact jr h.ws (λk a=>f8 (λe=>(h.wd k a).1 (aj e))),Gx.apart_of h.rd m1 c,by rw[a.1];exact λk e=>⟨(h.wd k e).1,Gx.apart_of (h.wd k e).2 m1 c⟩⟩
 ·rw[m1];exact h.mr.same b (λhp k a _=>f8 (λe=>h.rd.1 (by omega) k a (aj e)))
 ·rw[c];exact h.ar.same b (λhp k a _=>f8 (λe=>h.rd.2 (by omega) k a (aj e)))
 ·rw[m];exact h.ra.same b (λ_=>f8 (bZ d1))
 ·rw[n];exact h.ow.same b (λ_=>f8 (bZ d2))
 ·rw[o];exact h.vi.same b (λ_=>f8 (bZ d3))
theorem Gd.puts(h:Gd F W M tk)(i:Nat)(vs:List π)(hi:i+vs.length<=77)(hc:kr (F.cells M tk) i vs=F.cells M' tk')(f:M'.mrom=M.mrom/\M'.arom=M.arom/\M'.ram=M.ram/\M'.own=M.own/\M'.video=M.video)(j:M'.fit)(a:tk'.v=tk.v/\tk'.l=tk.l:=by exact⟨D,D⟩):Gd F (W.setCells F.g i vs) M' tk':=by
 obtain⟨m1,c,m,n,o⟩:=f;obtain⟨d1,d2,d3,_⟩:=h.nd.d;have b:W.heap.size<=(W.setCells F.g i vs).heap.size:=cq (pN _ _ _ _).symm;refine⟨hc ▸ h.bx.puts i vs (by rw[F.len];exact hi),?_,?_,?_,?_,?_,h.nd,j,ax h.big b,by rw[a.1,a.2];exact jr h.ws (λk a=>ji (λe=>(h.wd k a).1 (aj e)) _ _ _),Gx.apart_of h.rd m1 c,by rw[a.1];exact λk e=>⟨(h.wd k e).1,Gx.apart_of (h.wd k e).2 m1 c⟩⟩
 ·rw[m1];exact h.mr.same b (λhp k a _=>ji (λe=>h.rd.1 (by omega) k a (aj e)) _ _ _)
 ·rw[c];exact h.ar.same b (λhp k a _=>ji (λe=>h.rd.2 (by omega) k a (aj e)) _ _ _)
 ·rw[m];exact h.ra.same b (λ_=>ji (bZ d1) _ _ _)
 ·rw[n];exact h.ow.same b (λ_=>ji (bZ d2) _ _ _)
 ·rw[o];exact h.vi.same b (λ_=>ji (bZ d3) _ _ _)
theorem Gd.far(h:Gd F W M tk){b o:Nat}{v:π}(d:b≠F.g)(c:F.T b):Bx (W.setCell ⟨b,o,G⟩ v) F.g (F.cells M tk)/\sliceAt (W.setCell ⟨b,o,G⟩ v) F.S.mr M.mrom/\sliceAt (W.setCell ⟨b,o,G⟩ v) F.S.ar M.arom /\
 F.B<=(W.setCell ⟨b,o,G⟩ v).heap.size/\(W.setCell ⟨b,o,G⟩ v).ownsRow F.B 104 3 tk.v tk.l.length (oC tk.l) :=
 ⟨h.bx.far d v,h.mr.same (by rw[lA];exact ψ _) (λhp k a _=>f8 (λe=>h.rd.1 hp k a (by rw[e];exact c))),h.ar.same (by rw[lA];exact ψ _) (λhp k a _=>f8 (λe=>h.rd.2 hp k a (by rw[e];exact c))),by rw[lA];exact h.big,jr h.ws (λk a=>f8 (λe=>(h.wd k a).1 (by rw[e];exact c)))⟩
theorem Gd.putRam(h:Gd F W M tk)(i x:Int)(a:0<=i)(hi:i<128)(c:0<=x/\x<=255):Gd F (W.setCell ⟨F.ra,i.toNat,G⟩ (J au x)) { M with ram:=lF M.ram i x } tk:=by
 obtain⟨d1,d2,d3,d4,d5,g⟩:=h.nd.d;obtain⟨a1,a2,a3,a5,f⟩:=h.far (b:=F.ra) (o:=i.toNat) (v:=J au x) (bZ d1) (ao (aj D));exact⟨a1,a2,a3,h.ra.put i x a (by rw[h.fit.ram];exact hi) c,h.ow.same (by rw[lA];exact ψ _) (λ_=>f8 (bZ d4)),h.vi.same (by rw[lA];exact ψ _) (λ_=>f8 (bZ d5)),h.nd,
  { h.fit with ram:=by rw[wm];exact h.fit.ram,main:=h.fit.main,aux:=h.fit.aux,p0:=h.fit.p0,p1:=h.fit.p1,tr:=h.fit.tr,tc:=h.fit.tc,s:=h.fit.s,fr:=h.fit.fr,«to»:=h.fit.to,m0:=h.fit.m0,m1:=h.fit.m1 },a5,f,Gx.apart_of h.rd D D,λk e=>⟨(h.wd k e).1,Gx.apart_of (h.wd k e).2 D D⟩⟩
theorem Gd.putOwn(h:Gd F W M tk)(i x:Int)(a:0<=i)(hi:i<64)(c:0<=x/\x<=255):Gd F (W.setCell ⟨F.ow,i.toNat,G⟩ (J au x)) { M with own:=lF M.own i x } tk:=by
 obtain⟨d1,d2,d3,d4,d5,f⟩:=h.nd.d;obtain⟨a1,a2,a3,a5,g⟩:=h.far (b:=F.ow) (o:=i.toNat) (v:=J au x) (bZ d2) (ao (ao (aj D)));exact⟨a1,a2,a3,h.ra.same (by rw[lA];exact ψ _) (λ_=>f8 d4),h.ow.put i x a (by rw[h.fit.own];exact hi) c,h.vi.same (by rw[lA];exact ψ _) (λ_=>f8 (bZ f)),h.nd,
  { h.fit with own:=by rw[wm];exact h.fit.own,main:=h.fit.main,aux:=h.fit.aux,p0:=h.fit.p0,p1:=h.fit.p1,tr:=h.fit.tr,tc:=h.fit.tc,s:=h.fit.s,fr:=h.fit.fr,«to»:=h.fit.to,m0:=h.fit.m0,m1:=h.fit.m1 },a5,g,Gx.apart_of h.rd D D,λk e=>⟨(h.wd k e).1,Gx.apart_of (h.wd k e).2 D D⟩⟩
theorem Gd.putVideo(h:Gd F W M tk)(i x:Int)(a:0<=i)(hi:i<256)(c:0<=x/\x<=255):Gd F (W.setCell ⟨F.vi,i.toNat,G⟩ (J au x)) { M with video:=lF M.video i x } tk:=by
 obtain⟨d1,d2,d3,d4,d5,f⟩:=h.nd.d;obtain⟨a1,a2,a3,a5,g⟩:=h.far (b:=F.vi) (o:=i.toNat) (v:=J au x) (bZ d3) (ao (ao (ao D)));exact⟨a1,a2,a3,h.ra.same (by rw[lA];exact ψ _) (λ_=>f8 d5),h.ow.same (by rw[lA];exact ψ _) (λ_=>f8 f),h.vi.put i x a (by rw[h.fit.video];exact hi) c,h.nd,
  { h.fit with video:=by rw[wm];exact h.fit.video,main:=h.fit.main,aux:=h.fit.aux,p0:=h.fit.p0,p1:=h.fit.p1,tr:=h.fit.tr,tc:=h.fit.tc,s:=h.fit.s,fr:=h.fit.fr,«to»:=h.fit.to,m0:=h.fit.m0,m1:=h.fit.m1 },a5,g,Gx.apart_of h.rd D D,λk e=>⟨(h.wd k e).1,Gx.apart_of (h.wd k e).2 D D⟩⟩
abbrev Gt(F:Gx)(W w1:u):Prop:=Mv F.B F.T F.T W w1
theorem Gt.kept(h:Gt F W w0)(a:F.B<=w0.heap.size)(hb:Below w0.heap.size w0 w1):Gt F W w1:=Mv.trans h (Mv.of_below a hb)
theorem Gt.set(a:F.nd)(h:Gt F W w0)(i:Nat)(v:π):Gt F W (w0.setCell ⟨F.g,i,G⟩ v):=Mv.setCell h a.lo.1 (aj (aj rfl)) v
theorem Gt.setR(a:F.nd)(h:Gt F W w0)(i:Nat)(v:π):Gt F W (w0.setCell ⟨F.ra,i,G⟩ v):=Mv.setCell h a.lo.2.1 (aj (ao (aj rfl))) v
theorem Gt.setO(a:F.nd)(h:Gt F W w0)(i:Nat)(v:π):Gt F W (w0.setCell ⟨F.ow,i,G⟩ v):=Mv.setCell h a.lo.2.2.1 (aj (ao (ao (aj rfl)))) v
theorem Gt.setV(a:F.nd)(h:Gt F W w0)(i:Nat)(v:π):Gt F W (w0.setCell ⟨F.vi,i,G⟩ v):=Mv.setCell h a.lo.2.2.2 (aj (ao (ao (ao rfl)))) v
theorem Gt.sets(a:F.nd):∀(vs:List π) (i:Nat) (w0:u),Gt F W w0->Gt F W (w0.setCells F.g i vs)
 | [],i,w0,h=>h
 | v::vs,i,w0,h=>Gt.sets a vs (i+1) _ (Gt.set a h i v)
theorem Gt.refl(F:Gx)(W:u):Gt F W W:=Mv.refl _ _ _
theorem Gt.under(h:Gd F W M tk){w0:u}(hb:Below W.heap.size W w0):Gt F W w0:=Mv.of_below h.big hb
def Gx.Tw(F:Gx)(W:u)(k:Nat):Prop:=F.T k \/ ∃ cs fr,W.heap[k]?=A (χ cs 104 fr)
theorem zpU{k:Nat}(e:w1.heap[k]?=W.heap[k]?)(h:F.Tw w1 k):F.Tw W k:=h.imp id (λ⟨cs,fr,x⟩=>⟨cs,fr,e ▸ x⟩)
def Gw(F:Gx)(W w1:u):Prop:=Mv F.B (F.Tw W) (F.Tw w1) W w1
theorem Gt.w(h:Gt F W w1):Gw F W w1:=⟨h.below,λk a b=>h.block k a (λx=>b (aj x)),λk b=>by
 rcases iz k W.heap.size with a|a
 ·by_cases c:F.T k
  ·exact aj (aj c)
  ·exact aj (zpU (h.block k a c) b)
 ·exact ao a⟩
theorem Gw.trans{w2:u}(h:Gw F W w1)(k:Gw F w1 w2):Gw F W w2:=Mv.trans h k
theorem Gw.of_below(hB:F.B<=W.heap.size)(hb:Below W.heap.size W w1):Gw F W w1:=Gt.w (Mv.of_below hB hb)
theorem Gw.grown(h:Gd F W M tk)(d:W.grownBy w1 tk.v.ownBlock):Gw F W w1 :=
 have b:∀ k,k<W.heap.size->¬ F.Tw W k->A k≠tk.v.ownBlock:=λk a c e=>c (ao (by
  rcases h.ws.2 with⟨f,_⟩|⟨g,j,l,f,_,m,_⟩
  ·rw[f] at e;cases e
  ·rw[f] at e;cases e;exact⟨_,_,m⟩))
 ⟨(bq F.B W).grown d h.big (λk a=>(h.ws.lt k a).1),λk a c=>d.block k a (b k a c),λk c=>by
   rcases iz k W.heap.size with a|a
   ·by_cases i:F.Tw W k
    ·exact aj i
    ·exact aj (zpU (d.block k a (b k a i)) c)
   ·exact ao a⟩
theorem Gd.ramV(h:Gd F W M tk):∃ a,F.S.ra=κ (A ⟨F.ra,0,G⟩) 128 a/\128<=a/\Bx W F.ra (gJ M.ram):=by
 obtain⟨a,h1,h2,h3⟩:=h.ra.some (by rw[h.fit.ram];omega);rw[h.fit.ram] at h1 h2;exact⟨a,h1,h2,h3⟩
theorem Gd.ownV(h:Gd F W M tk):∃ a,F.S.ow=κ (A ⟨F.ow,0,G⟩) 64 a/\64<=a/\Bx W F.ow (gJ M.own):=by
 obtain⟨a,h1,h2,h3⟩:=h.ow.some (by rw[h.fit.own];omega);rw[h.fit.own] at h1 h2;exact⟨a,h1,h2,h3⟩
theorem Gd.viV(h:Gd F W M tk):∃ a,F.S.vi=κ (A ⟨F.vi,0,G⟩) 256 a/\256<=a/\Bx W F.vi (gJ M.video):=by
 obtain⟨a,h1,h2,h3⟩:=h.vi.some (by rw[h.fit.video];omega);rw[h.fit.video] at h1 h2;exact⟨a,h1,h2,h3⟩
theorem Gd.ramAt(h:Gd F W M tk)(i:Int)(b:0<=i)(hi:i<128):W.cell? ⟨F.ra,i.toNat,G⟩=A (J au (mq M.ram i))/\F.ra<W.heap.size/\W.frozen? ⟨F.ra,i.toNat,G⟩=ξ:=by
 obtain⟨_,_,_,a⟩:=h.ramV;exact⟨a.at _ _ (wV _ _ b (by rw[h.fit.ram];exact hi)),a.z,a.f _⟩
theorem Gd.ownAt(h:Gd F W M tk)(i:Int)(b:0<=i)(hi:i<64):W.cell? ⟨F.ow,i.toNat,G⟩=A (J au (mq M.own i))/\F.ow<W.heap.size/\W.frozen? ⟨F.ow,i.toNat,G⟩=ξ:=by
 obtain⟨_,_,_,a⟩:=h.ownV;exact⟨a.at _ _ (wV _ _ b (by rw[h.fit.own];exact hi)),a.z,a.f _⟩
theorem Gd.viAt(h:Gd F W M tk)(i:Int)(b:0<=i)(hi:i<256):W.cell? ⟨F.vi,i.toNat,G⟩=A (J au (mq M.video i))/\F.vi<W.heap.size/\W.frozen? ⟨F.vi,i.toNat,G⟩=ξ:=by
 obtain⟨_,_,_,a⟩:=h.viV;exact⟨a.at _ _ (wV _ _ b (by rw[h.fit.video];exact hi)),a.z,a.f _⟩
theorem BU{l:List Wt}(h:Gd F w1 M tk)(a:l=[])(b:Gt F W w1):(∃ v,Gd F w1 M (tk.app l v))/\Gw F W w1:=⟨⟨tk.v,by rw[a,Tk.app_nil];exact h⟩,b.w⟩
end
theorem zJ:Tryz.prog.underlying 257=A (.map 4 5):=by kernel_rfl
theorem zjY(w:u):(zeroValue 5).run ω w=.ok (J au 0) w:=by kernel_rfl
theorem zgn(x y:Bool)(w:u):Δ ω 91 #[ν x,ν y] w λe w'=>e=μ (J au (two x y))/\Below w.heap.size w w':=by
 have i:=@lL ω;cases x <;> cases y
 all_goals
  go_enter func91,ntmps91;go_wp2_with (first
   | (refine zdW _ D _ _ _ 257 D 4 5 zJ underlying4 w2.heap.size 0 D ?_ _ D D ?_;(exact aM _ _);intro h a f;have b:=zcY zJ underlying4 a ξ _ (zjY h);have c:=zcY zJ underlying4 a true _ (zjY h);simp only[vh,cD,fj,fO] at b c;have j:=hid (bw k.out (f.grown _ (stA (aR _) _) (ψ _)));clear a f)
   | (refine zdW _ D _ _ _ 257 D 4 5 zJ underlying4 w.heap.size 0 D ?_ _ D D ?_;(exact aM _ _);intro w2 d g;have b:=zcY zJ underlying4 d ξ _ (zjY w2);have c:=zcY zJ underlying4 d true _ (zjY w2);simp only[vh,cD,fj,fO] at b c;have k:=hid (g.grown _ (stA (aR w) _) (ψ _));clear d g))
  go_ret;exact⟨D,j.out⟩
end Go.Proofs.YthghjlinhokimaaGreatDoor
