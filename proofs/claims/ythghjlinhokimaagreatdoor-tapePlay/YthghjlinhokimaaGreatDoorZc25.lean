/-
  Parts of a proof, joined.
-/
import Derived.Test.YthghjlinhokimaaGreatDoorZcA
import Derived.Test.YthghjlinhokimaaGreatDoorZc18
import Derived.Test.YthghjlinhokimaaGreatDoorZc20
import Derived.Test.YthghjlinhokimaaGreatDoorZc22
import Derived.Test.YthghjlinhokimaaGreatDoorZc21
set_option linter.all false
set_option maxRecDepth 100000
set_option maxHeartbeats 6400000
namespace Go.Proofs.YthghjlinhokimaaGreatDoor
open Go.ChangeShapes Go.WideShapes Go.ChangeAt Go.RowKit Go.Proofs.Tryz
structure Bst where
 M:Mach
 n:Int
 l:List Wt
theorem Pd.rd_bd{p:Pd}(h:p.ok):0<=p.rd/\p.rd<=255:=by
 unfold Pd.rd et;have:=h.d;have:=h.s;split <;> omega
theorem zrh(a b:Bool):0<=two a b/\two a b<=255:=by cases a <;> cases b <;> decide
theorem zva{M:Mach}(h:M.fit)(a:Int):0<=(M.rdM a).1/\(M.rdM a).1<=255:=by
 unfold Mach.rdM;split
 ·unfold Mach.portM
  split
  ·exact Pd.rd_bd h.p0
  ·exact Pd.rd_bd h.p1
  ·exact zrh _ _
  ·exact⟨h.b.l0,eA h.b.l1 (by decide)⟩
  ·exact⟨h.b.a0,eA h.b.a1 (by decide)⟩
  ·exact zrh _ _
  ·exact zrh _ _
  ·exact h.m1
  ·exact⟨show (0:Int)<=255 by decide,show (255:Int)<=255 by decide⟩
 ·exact nC _ _
theorem zvb{M:Mach}(h:M.fit)(a:Int):0<=(M.rdA a).1/\(M.rdA a).1<=255:=by
 unfold Mach.rdA;split
 ·unfold Mach.portA
  split
  ·exact h.m0
  ·exact⟨show (0:Int)<=255 by decide,show (255:Int)<=255 by decide⟩
 ·exact pR _ _
theorem ziq(a n:Int)(h:0<=n/\n<=255):0<=ia a n/\ia a n<=510:=by
 unfold ia kU;split
 ·split <;> omega
 ·omega
theorem zir(M:Mach)(a n:Int):(M.shA a n).length<=1:=by
 unfold Mach.shA shown;split
 ·split <;> simp
 ·simp
def bD:C.Mem Bst where
 rd s a:=((s.M.rdM a).1%256,{ s with M:=(s.M.rdM a).2 })
 wr s a b:={ s with M:=s.M.wrM a (b%256),n:=s.n+ia a (b%256) }
 fuel s:=(1000000000000-s.n).toNat/510
def bY:C.Mem Bst where
 rd s a:=((s.M.rdA a).1%256,{ s with M:=(s.M.rdA a).2 })
 wr s a b:={ s with M:=s.M.wrA a (b%256),l:=s.l++s.M.shA a (b%256) }
 fuel s:=1000000001-s.l.length
structure Fx.into (F : Fx) (N : Nat) : Prop where
 g:F.g<N
 s:∀ j k,j<5->(F.S.get j).ownBlock=some k->k<N
 e:∀ x v,F.has x v->x<N
section
variable {F : Fx} {N : Nat} {W w w1 : World} {M M' : Mach} {tk tk' : Tk}
theorem Bd.rw(h:Bd F W M tk)(j:Nat)(a:j<5):∃ k,Rw W (F.S.get j) k (M.byt j):=by
 rcases five a with rfl|rfl|rfl|rfl|rfl
 ·exact⟨_,h.mr⟩
 ·exact⟨_,h.ar⟩
 ·exact⟨_,h.ra⟩
 ·exact⟨_,h.ow⟩
 ·exact⟨_,h.vi⟩
theorem Bd.into(h:Bd F W M tk):F.into W.heap.size :=
 ⟨h.bx.z,λj k a e=>by obtain⟨_,b⟩:=h.rw j a;exact b.lt k e,λx v c=>(h.env x v c).1⟩
theorem Bd.same(h:Bd F W M tk)(c:F.into N)(b:W.heap.size<=w1.heap.size)(e:∀ k,k<N->w1.heap[k]?=W.heap[k]?)(f:∀ k,tk.v.ownBlock=some k->w1.heap[k]?=W.heap[k]?):Bd F w1 M tk :=
 ⟨h.bx.same b (e _ c.g),h.mr.same2 b (λj a _=>e j (c.s 0 j (by omega) a)),h.ar.same2 b (λj a _=>e j (c.s 1 j (by omega) a)),h.ra.same2 b (λj a _=>e j (c.s 2 j (by omega) a)),h.ow.same2 b (λj a _=>e j (c.s 3 j (by omega) a)),h.vi.same2 b (λj a _=>e j (c.s 4 j (by omega) a)),
   λx v d=>⟨ap (h.env x v d).1 b,(am (w:=W) (e x (c.e x v d))).trans (h.env x v d).2⟩,h.nd,h.fit,ax h.big b,fF h.ws f,h.wd⟩
theorem Bd.inT(h:Bd F W M tk)(b:F.into N):∀ k,F.T k->k<N:=λk c=>by
 rcases c with e|e|e|e
 ·rw[e];exact b.g
 ·obtain⟨a,h1,_,_⟩:=h.ra.some (by rw[h.fit.ram];omega)
  rw[e];exact b.s 2 _ (by omega) (by show F.S.ra.ownBlock=_;rw[h1];rfl)
 ·obtain⟨a,h1,_,_⟩:=h.ow.some (by rw[h.fit.own];omega)
  rw[e];exact b.s 3 _ (by omega) (by show F.S.ow.ownBlock=_;rw[h1];rfl)
 ·obtain⟨a,h1,_,_⟩:=h.vi.some (by rw[h.fit.video];omega)
  rw[e];exact b.s 4 _ (by omega) (by show F.S.vi.ownBlock=_;rw[h1];rfl)
theorem Bd.wty(h:Bd F W M tk):∀ k,tk.v.ownBlock=some k->∃ cs fr,W.heap[k]?=some (.cells cs 104 fr):=λk a=>by
 rcases h.ws.2 with⟨b,_⟩|⟨g,c,d,b,_,e,_⟩
 ·rw[b] at a;cases a
 ·rw[b] at a;cases a;exact⟨_,_,e⟩
structure BI (F : Fx) (N : Nat) (w : World) (s : Bst) : Prop where
 N:N<=w.heap.size
 sh:aZ w
 n:0<=s.n
 bd:∃ v,Bd F w s.M ⟨s.n,s.l,v⟩
structure Fb (F : Fx) (N : Nat) : Prop where
 into:F.into N
 shN:2<N
 shB:2<F.B
abbrev BT(N:Nat)(_:Bst)(k:Nat):Prop:=k<N
theorem rt(h:aZ w)(e:w1.heap[2]?=w.heap[2]?):aZ w1:=λk a=>by
 obtain⟨h1,h2,h3⟩:=h k a;exact⟨(am (w:=w) e).trans h1,(am (w:=w) e).trans h2,(am (w:=w) e).trans h3⟩
def BE(F:Fx)(W w':World)(s:Bst):Prop:=(∃ v,Bd F w' s.M ⟨s.n,s.l,v⟩)/\Bw F W w'
theorem BE.out{s s':Bst}(d:Fb F N)(c:BI F N w s)(h:BE F w w1 s')(f:0<=s'.n):BI F N w1 s'/\Mv F.B (Tw (BT N) w s) (Tw (BT N) w1 s') w w1:=by
 obtain⟨v,hB⟩:=c.bd;obtain⟨g,b⟩:=h;have e:=hB.inT d.into;refine⟨⟨ax c.N (Mv.size b),rt c.sh (b.below.block _ d.shB),f,g⟩,b.below,λk a i=>b.block k a (λy=>i (y.imp (e k) id)),λk a=>?_⟩;rcases a with a|a
 ·exact Or.inl (Or.inl a)
 ·rcases b.fresh k (Or.inr a) with y|y
  ·exact Or.inl (y.imp (e k) id)
  ·exact Or.inr y
theorem zwg(n:Nat)(a b:Array Value)(w:World):(binOp .neq 121 (.func (.func n) a b) .nilFunc).run prog w=.ok (.bool true) w:=by kernel_rfl
theorem BE.over{s:Bst}{o:Obj}(hB:F.B<=w.heap.size)(h:BE F (w.alloc o) w1 s):BE F w w1 s:=⟨h.1,Bw.trans (Bw.of_below hB (stA (J w) o)) h.2⟩
theorem zd7(h:Bd F W M tk)(o:Nat)(a x:Int)(s':Bst)(c:∀ W,Bd F W M tk->Calls prog 132 #[pt F.g o,.int .u16 a] W λe w'=>e=.returned (.int .u8 x)/\BE F W w' s'):Calls prog 210 #[iX F.g o,.int .u16 a] W λe w'=>e=.returned (.int .u8 x)/\BE F W w' s':=by
 have d:=zq6 132 #[pt F.g o] #[];have H:=hid h;clear h;go_enter func210,ntmps210;go_wp2_with (go_at_call 132;refine(c _ (H.out.over _)).mono ?_;rintro e w1 ⟨rfl,b⟩)
 go_ret;exact⟨U,b.over H.out.big⟩
theorem zds(h:Bd F W M tk)(o:Nat)(a x:Int)(s':Bst)(c:∀ W,Bd F W M tk->Calls prog 133 #[pt F.g o,.int .u16 a,.int .u8 x] W λe w'=>e=.returned (.tuple #[])/\BE F W w' s'):Calls prog 298 #[iX F.g o,.int .u16 a,.int .u8 x] W λe w'=>e=.returned (.tuple #[])/\BE F W w' s':=by
 have d:=zwg 133 #[pt F.g o] #[];have H:=hid h;clear h;go_enter func298,ntmps298;go_wp2_with (go_at_call 133;refine(c _ (H.out.over _)).mono ?_;rintro e w1 ⟨rfl,b⟩)
 go_end0;exact⟨U,b.over H.out.big⟩
theorem BI.keep{s:Bst}(b:Fb F N)(h:BI F N w s)(c:w.heap.size<=w1.heap.size)(e:∀ k,Tw (BT N) w s k->w1.heap[k]?=w.heap[k]?):BI F N w1 s:=by
 obtain⟨v,hB⟩:=h.bd;exact⟨ax h.N c,rt h.sh (e _ (Or.inl b.shN)),h.n,v,hB.same b.into c (λk a=>e k (Or.inl a)) (λk a=>e k (Or.inr (hB.wty k a)))⟩
theorem zis(m:Fb F N):RS bD F.B 132 133 (#[pt F.g 77],#[]) (#[pt F.g 77],#[]) (BI F N) (BT N) where
 lt:=λh k t=>ap t h.N
 keep:=λh u e=>h.keep m u e
 shapes:=λh=>h.sh
 gT:=m.shN
 byte:=λs a=>by
  show 0<=(s.M.rdM a).1%256/\(s.M.rdM a).1%256<=255;omega
 frd:=λs a=>ak _
 fwr:=λs a b=>by
  have:=ziq a (b%256) (by omega);show (1000000000000-s.n).toNat/510<=(1000000000000-(s.n+ia a (b%256))).toNat/510+1;omega
 big:=λh=>by obtain⟨v,hB⟩:=h.bd;exact hB.big
 read:=λw s a o c h=>by
  obtain⟨v,hB⟩:=h.bd;have hb:=zva hB.fit a;have e1:(bD.rd s a).1=(s.M.rdM a).1:=by show (s.M.rdM a).1%256=_;omega
  rw[e1];refine(zd7 hB 77 a (s.M.rdM a).1 (bD.rd s a).2 (λW p=>(zqS p a ⟨o,c⟩ (λi hi=>zts i hi)).mono ?_)).mono ?_
  ·rintro e w1 ⟨rfl,d,f⟩
   exact⟨U,⟨v,d⟩,f.w⟩
  ·rintro e w1 ⟨rfl,q⟩
   exact⟨U,q.out m h h.n⟩
 write:=λw s a b o c hb j x h=>by
  obtain⟨v,hB⟩:=h.bd;have e1:b%256=b:=by omega
  have y:1<=(1000000000000-s.n).toNat/510:=x;have r:0<=s.n/\s.n<=1000000000000:=⟨h.n,by omega⟩
  have z:=ziq a b ⟨hb,j⟩;have e2:bD.wr s a b=⟨s.M.wrM a b,s.n+ia a b,s.l⟩:=by show (⟨_,_,_⟩:Bst)=_;rw[e1]
  rw[e2];refine(zds hB 77 a b ⟨s.M.wrM a b,s.n+ia a b,s.l⟩ (λW p=>(zoH p a b ⟨o,c⟩ ⟨hb,j⟩ (λi hi=>ztN b ⟨hb,j⟩ r i hi)).mono ?_)).mono ?_
  ·rintro e w1 ⟨rfl,d,f⟩
   exact⟨U,⟨v,d⟩,f.w⟩
  ·rintro e w1 ⟨rfl,q⟩
   exact⟨U,q.out m h (by show 0<=s.n+ia a b;omega)⟩
theorem znA(m:Fb F N):RS bY F.B 132 133 (#[pt F.g 143],#[]) (#[pt F.g 143],#[]) (BI F N) (BT N) where
 lt:=λh k r=>ap r h.N
 keep:=λh t e=>h.keep m t e
 shapes:=λh=>h.sh
 gT:=m.shN
 byte:=λs a=>by
  show 0<=(s.M.rdA a).1%256/\(s.M.rdA a).1%256<=255;omega
 frd:=λs a=>ak _
 fwr:=λs a b=>by
  have:=zir s.M a (b%256);show 1000000001-s.l.length<=1000000001-(s.l++s.M.shA a (b%256)).length+1;rw[aC];omega
 big:=λh=>by obtain⟨v,hB⟩:=h.bd;exact hB.big
 read:=λw s a o c h=>by
  obtain⟨v,hB⟩:=h.bd;have hb:=zvb hB.fit a;have e1:(bY.rd s a).1=(s.M.rdA a).1:=by show (s.M.rdA a).1%256=_;omega
  rw[e1];refine(zd7 hB 143 a (s.M.rdA a).1 (bY.rd s a).2 (λW p=>(zq7 p a ⟨o,c⟩ (λi hi=>ztt i hi)).mono ?_)).mono ?_
  ·rintro e w1 ⟨rfl,d,f⟩
   exact⟨U,⟨v,d⟩,f.w⟩
  ·rintro e w1 ⟨rfl,q⟩
   exact⟨U,q.out m h h.n⟩
 write:=λw s a b o c hb j u h=>by
  obtain⟨v,hB⟩:=h.bd;have e1:b%256=b:=by omega
  have x:1<=1000000001-s.l.length:=u;have e2:bY.wr s a b=⟨s.M.wrA a b,s.n,s.l++s.M.shA a b⟩:=by show (⟨_,_,_⟩:Bst)=_;rw[e1]
  rw[e2];refine(zds hB 143 a b ⟨s.M.wrA a b,s.n,s.l++s.M.shA a b⟩ (λW p=>(zoT p a b ⟨o,c⟩ ⟨hb,j⟩ (λi hi=>ztO b ⟨hb,j⟩ (by show s.l.length<=1000000000;omega) i hi)).mono ?_)).mono ?_
  ·rintro e w1 ⟨rfl,d,f⟩
   exact⟨U,d,f⟩
  ·rintro e w1 ⟨rfl,q⟩
   exact⟨U,q.out m h h.n⟩
end
section
variable {F : Gx} {w W w1 : World}
theorem zwh{a:Addr}{v:Value}{k:Nat}(h:F.Tw (W.setCell a v) k):F.Tw W k:=Tw.set (T:=λ(_:Unit)=>F.T) (s:=()) h
theorem Gw.own(h:Gw F w W)(hB:F.B<=w.heap.size){p:Nat}(hp:w.heap.size<=p)(i:Nat)(v:Value):Gw F w (W.setCell ⟨p,i,none⟩ v):=(Mv.setCell h (ax hB hp) (Or.inr hp) v).weak (λk a=>Or.inl (zwh a))
theorem Gw.box(h:Gw F w W){b:Nat}{cs:Array Value}{t:TypeId}{fr:Nat × Nat}(e:w.heap[b]?=some (.cells cs t fr))(a:¬ F.T b)(c:t≠104):W.heap[b]?=some (.cells cs t fr) :=
 (h.block b (ay.1 e).1 (λy=>y.elim a (λ⟨d,f,x⟩=>by
   rw[e] at x;simp only[aP,cP] at x;exact c x.2.1))).trans e
end
def Wt'(w:World)(k:Nat):Prop:=∃ cs fr,w.heap[k]?=some (.cells cs 104 fr)
structure Qe where
 m:C.Mem Bst
 F:Gx
 N:Nat
 ng:Nat
 np:Nat
 cg:Array Value
 cp:Array Value
 I:World->Bst->Prop
structure QS (q : Qe) : Prop where
 B:q.F.B<=q.N
 T:∀ k,q.F.T k->k<q.N
 big:∀ {w s},q.I w s->q.N<=w.heap.size
 keep:∀ {w w' s},q.I w s->w.heap.size<=w'.heap.size->(∀ k,k<q.N \/ Wt' w k->w'.heap[k]?=w.heap[k]?)->q.I w' s
 facts:∀ {w s},q.I w s->Facts w
 byte:∀ s a,0<=(q.m.rd s a).1/\(q.m.rd s a).1<=255
 frd:∀ s a,q.m.fuel s<=q.m.fuel (q.m.rd s a).2
 fwr:∀ s a b,q.m.fuel s<=q.m.fuel (q.m.wr s a b)+1
 eg:∀ a w,(callFunc q.ng a).run prog w=.ok (.enter q.ng a) w
 ep:∀ a w,(callFunc q.np a).run prog w=.ok (.enter q.np a) w
 get:∀ w s (a:Int),0<=a->a<=65535->q.I w s->Calls prog q.ng (#[.int .u16 a]++q.cg) w λe w'=>e=.returned (.int .u8 (q.m.rd s a).1)/\q.I w' (q.m.rd s a).2/\Gw q.F w w'
 put:∀ w s (a b:Int),0<=a->a<=65535->0<=b->b<=255->1<=q.m.fuel s->q.I w s->Calls prog q.np (#[.int .u16 a,.int .u8 b]++q.cp) w λe w'=>e=.returned (.tuple #[])/\q.I w' (q.m.wr s a b)/\Gw q.F w w'
abbrev Qe.v(q:Qe):Value:=.agg #[fv q.ng q.cg,fv q.np q.cp]
abbrev qq(p q:Nat):Value:=fv 137 #[.pointer (some ⟨p,0,none⟩),.pointer (some ⟨q,0,none⟩)]
def cJ(c:C.Cpu):Array Value:=(fC c).toArray
theorem zjT{c:C.Cpu}(hc:c.R.length=8):(∀ i:Nat,i<8->(cJ c)[i]?=some (.int .u16 (c.r i)))/\(cJ c)[8]?=some (.int .u16 c.PC)/\(cJ c)[9]?=some (.bool c.Z)/\(cJ c)[10]?=some (.bool c.N)/\(cJ c)[11]?=some (.bool c.C) /\
  (cJ c)[12]?=some (.bool c.V)/\(cJ c)[13]?=some (.bool c.May)/\(cJ c)[14]?=some (.bool c.Waits):=by
 obtain⟨a0,a1,a2,a3,a4,a5,a,b,h⟩:=mO hc;unfold cJ fC C.Cpu.r;rw[h];refine⟨λi hi=>?_,U,U,U,U,U,U,U⟩;have:i=0 \/ i=1 \/ i=2 \/ i=3 \/ i=4 \/ i=5 \/ i=6 \/ i=7:=by omega
 rcases this with rfl|rfl|rfl|rfl|rfl|rfl|rfl|rfl <;> rfl
theorem zoU{c:C.Cpu}(hc:c.R.length=8)(i:Nat)(hi:i<8)(x:Int):(cJ c).setIfInBounds i (.int .u16 x)=cJ (c.set i x):=by
 obtain⟨a0,a1,a2,a3,a4,a5,a,b,h⟩:=mO hc;unfold cJ fC C.Cpu.set;rw[h];have:i=0 \/ i=1 \/ i=2 \/ i=3 \/ i=4 \/ i=5 \/ i=6 \/ i=7:=by omega
 rcases this with rfl|rfl|rfl|rfl|rfl|rfl|rfl|rfl <;> rfl
theorem ru{c:C.Cpu}(hc:c.R.length=8):(∀ x,(cJ c).setIfInBounds 8 (.int .u16 x)=cJ { c with PC:=x })/\(∀ x,(cJ c).setIfInBounds 9 (.bool x)=cJ { c with Z:=x })/\(∀ x,(cJ c).setIfInBounds 10 (.bool x)=cJ { c with N:=x }) /\
 (∀ x,(cJ c).setIfInBounds 11 (.bool x)=cJ { c with C:=x })/\(∀ x,(cJ c).setIfInBounds 12 (.bool x)=cJ { c with V:=x })/\(∀ x,(cJ c).setIfInBounds 13 (.bool x)=cJ { c with May:=x }) /\
 (∀ x,(cJ c).setIfInBounds 14 (.bool x)=cJ { c with Waits:=x }):=by
 obtain⟨a0,a1,a2,a3,a4,a5,a,b,h⟩:=mO hc;unfold cJ fC;rw[h];exact⟨λ_=>U,λ_=>U,λ_=>U,λ_=>U,λ_=>U,λ_=>U,λ_=>U⟩
theorem zri{c:C.Cpu}(hc:c.R.length=8):cJ c=#[.int .u16 (c.r 0),.int .u16 (c.r 1),.int .u16 (c.r 2),.int .u16 (c.r 3),.int .u16 (c.r 4),.int .u16 (c.r 5),.int .u16 (c.r 6),.int .u16 (c.r 7),.int .u16 c.PC,.bool c.Z,.bool c.N,.bool c.C,.bool c.V,.bool c.May,.bool c.Waits]:=by
 obtain⟨a0,a1,a2,a3,a4,a5,a,b,h⟩:=mO hc;unfold cJ fC C.Cpu.r;rw[h];rfl
structure SW (q : Qe) (L : List (Nat × Array Value × TypeId)) (w W : World) (x : C.St Bst) : Prop where
 inv:q.I W x.s
 mv:Gw q.F w W
 N:q.N<=w.heap.size
 c:W.heap[w.heap.size]?=some (.cells (cJ x.c) 25 (0,0))
 m:W.heap[w.heap.size+1]?=some (.cells #[fv q.ng q.cg,fv q.np q.cp] 123 (0,0))
 r:∃ cs,cs.size=15/\W.heap[w.heap.size+2]?=some (.cells cs 25 (0,0))
 p:W.heap[w.heap.size+3]?=some (.cells #[qq w.heap.size (w.heap.size+1)] 227 (0,0))
 l:∀ y∈L,w.heap.size+4<=y.1/\y.2.2≠104/\W.heap[y.1]?=some (.cells y.2.1 y.2.2 (0,0))
 ok:x.c.ok
section
variable {q : Qe} {L : List (Nat × Array Value × TypeId)} {w W w1 : World} {x : C.St Bst}
theorem SW.lt(h:SW q L w W x):w.heap.size+3<W.heap.size:=(ay.1 h.p).1
theorem SW.fz(h:SW q L w W x)(i:Nat):W.frozen? ⟨w.heap.size,i,none⟩=false:=Lib.frozen_of_heap h.c i
theorem SW.reg(h:SW q L w W x)(i:Nat)(hi:i<8):W.cell? ⟨w.heap.size,i,none⟩=some (.int .u16 (x.c.r i)):=by
 rw[Lib.cell_of_heap h.c i];exact(zjT h.ok.1).1 i hi
theorem SW.cells(h:SW q L w W x):W.cell? ⟨w.heap.size,8,none⟩=some (.int .u16 x.c.PC)/\W.cell? ⟨w.heap.size,9,none⟩=some (.bool x.c.Z)/\W.cell? ⟨w.heap.size,10,none⟩=some (.bool x.c.N)/\W.cell? ⟨w.heap.size,11,none⟩=some (.bool x.c.C)/\W.cell? ⟨w.heap.size,12,none⟩=some (.bool x.c.V) /\
 W.cell? ⟨w.heap.size,13,none⟩=some (.bool x.c.May)/\W.cell? ⟨w.heap.size,14,none⟩=some (.bool x.c.Waits):=by
 have e:=λi=>Lib.cell_of_heap h.c i
 obtain⟨_,b,d,h10,h11,h12,h13,a⟩:=zjT h.ok.1;exact⟨(e 8).trans b,(e 9).trans d,(e 10).trans h10,(e 11).trans h11,(e 12).trans h12,(e 13).trans h13,(e 14).trans a⟩
theorem SW.regs(h:SW q L w W x):W.cell? ⟨w.heap.size,0,none⟩=some (.int .u16 (x.c.r 0))/\W.cell? ⟨w.heap.size,1,none⟩=some (.int .u16 (x.c.r 1))/\W.cell? ⟨w.heap.size,2,none⟩=some (.int .u16 (x.c.r 2))/\W.cell? ⟨w.heap.size,3,none⟩=some (.int .u16 (x.c.r 3)) /\
 W.cell? ⟨w.heap.size,4,none⟩=some (.int .u16 (x.c.r 4))/\W.cell? ⟨w.heap.size,5,none⟩=some (.int .u16 (x.c.r 5))/\W.cell? ⟨w.heap.size,6,none⟩=some (.int .u16 (x.c.r 6))/\W.cell? ⟨w.heap.size,7,none⟩=some (.int .u16 (x.c.r 7)) :=
 ⟨h.reg 0 (by omega),h.reg 1 (by omega),h.reg 2 (by omega),h.reg 3 (by omega),h.reg 4 (by omega),h.reg 5 (by omega),h.reg 6 (by omega),h.reg 7 (by omega)⟩
theorem SW.mem(h:SW q L w W x):W.cell? ⟨w.heap.size+1,0,none⟩=some (fv q.ng q.cg)/\W.cell? ⟨w.heap.size+1,1,none⟩=some (fv q.np q.cp):=⟨Lib.cell_of_heap h.m 0,Lib.cell_of_heap h.m 1⟩
theorem QS.nT(R:QS q){k:Nat}(a:q.N<=k):¬ q.F.T k:=λh=>by have:=R.T k h;omega
theorem QS.kept(R:QS q){s:Bst}(h:q.I W s)(hb:Below W.heap.size W w1):q.I w1 s:=R.keep h hb.size (λk a=>hb.block k (a.elim (λy=>ap y (R.big h)) (λ⟨_,_,y⟩=>(ay.1 y).1)))
theorem QS.same(R:QS q){s:Bst}(h:q.I W s)(e:w1.heap=W.heap):q.I w1 s:=R.keep h (by rw[e];exact ak _) (λk _=>by rw[e])
theorem QS.bg(R:QS q){s:Bst}(h:q.I W s):q.F.B<=W.heap.size:=ax R.B (R.big h)
theorem QS.box(R:QS q){s:Bst}{cs:Array Value}{t:TypeId}(h:q.I W s)(a:Gw q.F (W.alloc (.cells cs t)) w1)(b:t≠104:=by decide):W.heap.size<w1.heap.size /\ ∀ o,w1.cell? ⟨W.heap.size,o,none⟩=cs[o]? :=
 ⟨ap (by simp) (Mv.size a),λo=>Lib.cell_of_heap (a.box (aJ W _) (R.nT (R.big h)) b) o⟩
theorem QS.un(R:QS q){s:Bst}{o:Obj}(h:q.I W s)(a:Gw q.F (W.alloc o) w1):Gw q.F W w1:=Gw.trans (Gw.of_below (R.bg h) (stA (J W) o)) a
theorem SW.keepL(h:SW q L w W x)(R:QS q)(a:Gw q.F W w1):∀ y∈L,w.heap.size+4<=y.1/\y.2.2≠104/\w1.heap[y.1]?=some (.cells y.2.1 y.2.2 (0,0)):=λy b=>by
 obtain⟨h1,h2,h3⟩:=h.l y b;have:=h.N;exact⟨h1,h2,a.box h3 (R.nT (by omega)) h2⟩
theorem SW.moved(h:SW q L w W x)(R:QS q){s':Bst}(d:q.I w1 s')(a:Gw q.F W w1):SW q L w w1 ⟨x.c,s',x.n⟩:=by
 obtain⟨cs,e,f⟩:=h.r;have b:=h.N;exact⟨d,Gw.trans h.mv a,b,a.box h.c (R.nT b) (by decide),a.box h.m (R.nT (by omega)) (by decide),⟨cs,e,a.box f (R.nT (by omega)) (by decide)⟩,a.box h.p (R.nT (by omega)) (by decide),h.keepL R a,h.ok⟩
theorem SW.kept(h:SW q L w W x)(R:QS q)(hb:Below W.heap.size W w1):SW q L w w1 x:=h.moved R (R.kept h.inv hb) (Gw.of_below (R.bg h.inv) hb)
theorem SW.cyc(h:SW q L w W x)(n:Int):SW q L w W ⟨x.c,x.s,n⟩:=⟨h.inv,h.mv,h.N,h.c,h.m,h.r,h.p,h.l,h.ok⟩
theorem SW.far(h:SW q L w W x)(R:QS q){b:Nat}(hb:w.heap.size<=b){cs:Array Value}{t:TypeId}(c:W.heap[b]?=some (.cells cs t (0,0)))(d:t≠104)(i:Nat)(v:Value):q.I (W.setCell ⟨b,i,none⟩ v) x.s/\Gw q.F w (W.setCell ⟨b,i,none⟩ v) /\ ∀ k,k≠b->(W.setCell ⟨b,i,none⟩ v).heap[k]?=W.heap[k]?:=by
 have f:=h.N;have ne:∀ k,k≠b->(W.setCell ⟨b,i,none⟩ v).heap[k]?=W.heap[k]?:=λk a=>bL _ _ _ _ a
 refine⟨R.keep h.inv (by rw[pQ];exact ak _) (λk a=>ne k (λe=>?_)),h.mv.own (ax R.B f) hb i v,ne⟩;rcases a with a|⟨_,_,a⟩
 ·omega
 ·rw[e,c] at a
  simp only[aP,cP] at a;exact d a.2.1
theorem SW.put(h:SW q L w W x)(R:QS q)(i:Nat)(v:Value)(a:C.Cpu)(b:a.ok)(hc:(cJ x.c).setIfInBounds i v=cJ a):SW q L w (W.setCell ⟨w.heap.size,i,none⟩ v) ⟨a,x.s,x.n⟩:=by
 obtain⟨h1,h2,ne⟩:=h.far R (ak _) h.c (by decide) i v;obtain⟨cs,d,e⟩:=h.r;exact⟨h1,h2,h.N,by rw[py h.c,hc],(ne _ (by omega)).trans h.m,⟨cs,d,(ne _ (by omega)).trans e⟩,(ne _ (by omega)).trans h.p,λy f=>by obtain⟨l1,l2,l3⟩:=h.l y f;exact⟨l1,l2,(ne _ (by omega)).trans l3⟩,b⟩
theorem SW.putR(h:SW q L w W x)(R:QS q)(i:Nat)(hi:i<8)(v:Int)(a:0<=v)(h1:v<=65535):SW q L w (W.setCell ⟨w.heap.size,i,none⟩ (.int .u16 v)) ⟨x.c.set i v,x.s,x.n⟩ :=
 h.put R i _ _ (C.Cpu.ok_set h.ok _ _ a h1) (zoU h.ok.1 i hi v)
theorem SW.putPC(h:SW q L w W x)(R:QS q)(v:Int)(a:0<=v)(h1:v<=65535):SW q L w (W.setCell ⟨w.heap.size,8,none⟩ (.int .u16 v)) ⟨{ x.c with PC:=v },x.s,x.n⟩ :=
 h.put R 8 _ _ (C.Cpu.ok_pc h.ok v a h1) ((ru h.ok.1).1 v)
theorem SW.putZ(h:SW q L w W x)(R:QS q)(v:Bool):SW q L w (W.setCell ⟨w.heap.size,9,none⟩ (.bool v)) ⟨{ x.c with Z:=v },x.s,x.n⟩:=h.put R 9 _ _ h.ok ((ru h.ok.1).2.1 v)
theorem SW.putN(h:SW q L w W x)(R:QS q)(v:Bool):SW q L w (W.setCell ⟨w.heap.size,10,none⟩ (.bool v)) ⟨{ x.c with N:=v },x.s,x.n⟩:=h.put R 10 _ _ h.ok ((ru h.ok.1).2.2.1 v)
theorem SW.putC(h:SW q L w W x)(R:QS q)(v:Bool):SW q L w (W.setCell ⟨w.heap.size,11,none⟩ (.bool v)) ⟨{ x.c with C:=v },x.s,x.n⟩:=h.put R 11 _ _ h.ok ((ru h.ok.1).2.2.2.1 v)
theorem SW.putV(h:SW q L w W x)(R:QS q)(v:Bool):SW q L w (W.setCell ⟨w.heap.size,12,none⟩ (.bool v)) ⟨{ x.c with V:=v },x.s,x.n⟩:=h.put R 12 _ _ h.ok ((ru h.ok.1).2.2.2.2.1 v)
theorem SW.putMay(h:SW q L w W x)(R:QS q)(v:Bool):SW q L w (W.setCell ⟨w.heap.size,13,none⟩ (.bool v)) ⟨{ x.c with May:=v },x.s,x.n⟩:=h.put R 13 _ _ h.ok ((ru h.ok.1).2.2.2.2.2.1 v)
theorem SW.putWaits(h:SW q L w W x)(R:QS q)(v:Bool):SW q L w (W.setCell ⟨w.heap.size,14,none⟩ (.bool v)) ⟨{ x.c with Waits:=v },x.s,x.n⟩:=h.put R 14 _ _ h.ok ((ru h.ok.1).2.2.2.2.2.2 v)
theorem SW.also(h:SW q L w W x){b:Nat}{cs:Array Value}{t:TypeId}(hb:w.heap.size+4<=b)(d:t≠104)(e:W.heap[b]?=some (.cells cs t (0,0))):SW q ((b,cs,t)::L) w W x :=
 ⟨h.inv,h.mv,h.N,h.c,h.m,h.r,h.p,λy a=>(aV.1 a).elim (λe2=>by subst e2;exact⟨hb,d,e⟩) (λa=>h.l y a),h.ok⟩
theorem SW.boxed{b:Nat}{cs:Array Value}{t:TypeId}(h:SW q ((b,cs,t)::L) w W x)(R:QS q)(f:∀ y∈L,y.1≠b)(i:Nat)(v:Value):SW q ((b,cs.setIfInBounds i v,t)::L) w (W.setCell ⟨b,i,none⟩ v) x:=by
 obtain⟨g1,d,g3⟩:=h.l _ bl;dsimp only at g1 d g3;obtain⟨h1,h2,ne⟩:=h.far R (show w.heap.size<=b by omega) g3 d i v;obtain⟨e,g,j⟩:=h.r;refine⟨h1,h2,h.N,(ne _ (by omega)).trans h.c,(ne _ (by omega)).trans h.m,⟨e,g,(ne _ (by omega)).trans j⟩,(ne _ (by omega)).trans h.p,λy a=>?_,h.ok⟩;rcases aV.1 a with rfl|a
 ·exact⟨g1,d,py g3 v⟩
 ·obtain⟨l1,l2,l3⟩:=h.l y (bq _ a)
  exact⟨l1,l2,(ne _ (f y a)).trans l3⟩
end
section
variable {q : Qe} {L : List (Nat × Array Value × TypeId)} {w W : World} {x : C.St Bst}
theorem QS.word(R:QS q)(s:Bst)(a:Int):0<=(q.m.rdw s a).1/\(q.m.rdw s a).1<=65535:=by
 have h1:=R.byte s a;have h2:=R.byte (q.m.rd s a).2 ((a+1)%65536);unfold C.Mem.rdw;simp only;omega
theorem QS.frdw(R:QS q)(s:Bst)(a:Int):q.m.fuel s<=q.m.fuel (q.m.rdw s a).2:=ax (R.frd s a) (R.frd _ _)
theorem QS.fwrw(R:QS q)(s:Bst)(a n:Int):q.m.fuel s<=q.m.fuel (q.m.wrw s a n)+2:=by
 unfold C.Mem.wrw;have h1:=R.fwr s a (n/256);have h2:=R.fwr (q.m.wr s a (n/256)) ((a+1)%65536) (n%256);omega
theorem tP(R:QS q)(a:Int)(n:0<=a)(g:a<=65535)(w:World)(s:Bst)(l:q.I w s):Calls prog 86 #[q.v,.int .u16 a] w λe w'=>e=.returned (.int .u16 (q.m.rdw s a).1)/\q.I w' (q.m.rdw s a).2/\Gw q.F w w':=by
 have h:=hid l;have c:=hid R;have b1:=R.byte s a;have b2:=R.byte (q.m.rd s a).2 ((a+1)%65536);have e1:IntKind.u16.wrap (q.m.rd s a).1=(q.m.rd s a).1:=by rw[eh];omega
 have e2:IntKind.u16.wrap ((q.m.rd s a).1*256)=(q.m.rd s a).1*256:=by rw[eh];omega
 have e3:IntKind.u16.wrap (q.m.rd (q.m.rd s a).2 ((a+1)%65536)).1=(q.m.rd (q.m.rd s a).2 ((a+1)%65536)).1:=by rw[eh];omega
 have e4:IntKind.u16.wrap ((q.m.rd s a).1*256+(q.m.rd (q.m.rd s a).2 ((a+1)%65536)).1)=(q.m.rd s a).1*256+(q.m.rd (q.m.rd s a).2 ((a+1)%65536)).1:=by rw[eh];omega
 have eg:=R.eg;clear l R b1 b2;unfold C.Mem.rdw;have p:IntKind.u16.wrap (a+1)=(a+1)%65536:=bc _;go_enter func86,ntmps86;go_wp2_with (first
  | (refine(c.out.get _ (q.m.rd s a).2 ((a+1)%65536) (by omega) (by omega) i.out).mono ?_;rintro e w2 ⟨rfl,j,k⟩)
  | (refine(c.out.get _ s a n g (c.out.kept h.out (stA (J _) _))).mono ?_;rintro e w1 ⟨rfl,d,f⟩;obtain⟨o,b⟩:=c.out.box h.out f;have c0:=b 0;have c1:=b 1;have i:=hid d;clear b d))
 go_ret;exact⟨U,j,c.out.un h.out (Gw.trans f k)⟩
theorem znB(R:QS q)(a n:Int)(r:0<=a)(g:a<=65535)(o:0<=n)(t:n<=65535)(w:World)(s:Bst)(h:2<=q.m.fuel s)(p:q.I w s):Calls prog 138 #[q.v,.int .u16 a,.int .u16 n] w λe w'=>e=.returned (.tuple #[])/\q.I w' (q.m.wrw s a n)/\Gw q.F w w':=by
 have i:=hid p;have c:=hid R;have HFU1:Hid (1<=q.m.fuel (q.m.wr s a (n/256))):=hid (by have:=R.fwr s a (n/256);omega);have HFU0:Hid (1<=q.m.fuel s):=hid (by omega);have ep:=R.ep;clear p R h;unfold C.Mem.wrw;have x:IntKind.u16.wrap (a+1)=(a+1)%65536:=bc _;have e1:IntKind.u16.wrap (n.tdiv 256)=n/256:=by rw[aD o,eh];omega
 have e2:n/256%256=n/256:=by omega
 have e3:IntKind.u16.wrap (n.tmod 256)=n%256:=by rw[aq o,eh];omega
 go_enter func138,ntmps138;go_wp2_with (first
  | (refine(c.out.put _ (q.m.wr s a (n/256)) ((a+1)%65536) (n%256) (by omega) (by omega) (by omega) (by omega) HFU1.out j.out).mono ?_;rintro e w2 ⟨rfl,k,l⟩)
  | (refine(c.out.put _ s a (n/256) r g (by omega) (by omega) HFU0.out (c.out.kept i.out (stA (J _) _))).mono ?_;rintro e w1 ⟨rfl,d,f⟩;obtain⟨u,b⟩:=c.out.box i.out f;have c0:=b 0;have c1:=b 1;have j:=hid d;clear b d))
 go_end0;exact⟨U,k,c.out.un i.out (Gw.trans f l)⟩
abbrev pb(p:Nat):Value:=.pointer (some ⟨p,0,none⟩)
theorem zd8(R:QS q)(n:Int)(k:0<=n)(d:n<=65535)(a:2<=q.m.fuel x.s)(h:SW q L w W x):Calls prog 137 #[.int .u16 n,pb w.heap.size,pb (w.heap.size+1)] W λe w'=>e=.returned (.tuple #[])/\SW q L w w' (C.push q.m x n):=by
 have o:=h.reg 7 (by omega);have l:=h.lt;obtain⟨m0,m1⟩:=h.mem;have t:=h.fz 7;have u:=C.Cpu.r_bd h.ok 7;have v:=eh (x.c.r 7-2);have j:=hid R;have f:=hid a;have b:=hid (h.putR R 7 (by omega) ((x.c.r 7-2)%65536) (by omega) (by omega));clear h R a;generalize w.heap.size=p at *;go_enter func137,ntmps137;go_wp2_with (go_at_call 138;refine(znB j.out _ _ (by omega) (by omega) k d _ x.s f.out b.out.inv).mono ?_;rintro e w1 ⟨rfl,g,i⟩)
 go_end0;exact⟨U,b.out.moved j.out g i⟩
theorem zfc(R:QS q)(h:SW q L w W x):Calls prog 139 #[pb (w.heap.size+1),pb w.heap.size] W λe w'=>e=.returned (.int .u16 (C.popV q.m x))/\SW q L w w' (C.pop q.m x):=by
 have n:=h.reg 7 (by omega);have l:=h.lt;obtain⟨m0,m1⟩:=h.mem;obtain⟨b,d⟩:=C.Cpu.r_bd h.ok 7;have o:=eh (x.c.r 7+2);have k:=hid h;have f:=hid R;clear h R;go_enter func139,ntmps139;go_wp2_with (go_at_call 86;refine(tP f.out (x.c.r 7) b d _ x.s k.out.inv).mono ?_;rintro e w1 ⟨rfl,g,i⟩;have a:=hid (k.out.moved f.out g i);have p:=a.out.reg 7 (by omega);have t:=a.out.fz 7;have u:=a.out.lt;have j:=hid (a.out.putR f.out 7 (by omega) ((x.c.r 7+2)%65536) (by omega) (by omega)))
 go_ret;exact⟨U,j.out⟩
theorem zhh(R:QS q)(a:Int)(ha:0<=a)(E:a<=65535)(n:4<=q.m.fuel x.s)(h:SW q L w W x):Calls prog 140 #[.int .u16 a,pb (w.heap.size+3),pb w.heap.size,pb (w.heap.size+1)] W λe w'=>e=.returned (.tuple #[])/\SW q L w w' (C.leave q.m x a):=by
 obtain⟨c8,_⟩:=h.cells;have F:=h.lt;have j:=h.ok.2.2;have hb:W.cell? ⟨w.heap.size+3,0,none⟩=some (qq w.heap.size (w.heap.size+1)):=Lib.cell_of_heap h.p 0;have HP:=hid h;have f:=hid R;have H:=hid n;have o:Hid (2<=q.m.fuel (C.push q.m x x.c.PC).s):=hid (by have:=R.fwrw x.s ((x.c.r 7-2)%65536) x.c.PC;show 2<=q.m.fuel (q.m.wrw _ _ _);omega);clear h R n;go_enter func140,ntmps140;go_wp2_with (go_at_call 137;refine(zd8 f.out _ j.1 j.2 (ax (by decide) H.out) HP.out).mono ?_;rintro e w1 ⟨rfl,k⟩)
 have I:w1.cell? ⟨w.heap.size+3,0,none⟩=some (qq w.heap.size (w.heap.size+1)):=Lib.cell_of_heap k.p 0;have d:=hid k;clear k hb c8 j F;generalize B:C.push q.m x x.c.PC=y at d o;have HY:=hid B;clear B;obtain⟨r0,r1,r2,r3,r4,r5,r6,r7⟩:=d.out.regs;obtain⟨r8,r9,M,N,P,T,V⟩:=d.out.cells;have hz1:=d.out.lt;have X:=C.sign_bd y.c;have i:0<=C.sign y.c/\C.sign y.c<=65535:=by omega
 clear X;go_region_with (first
  | (go_at_call 141;refine(zrj y.c _).mono ?_;rintro e w2 ⟨rfl,t⟩;have l:=hid (d.out.kept f.out (bn (J w1).drew t));have Y:w2.cell? ⟨w.heap.size+3,0,none⟩=some (qq w.heap.size (w.heap.size+1)):=Lib.cell_of_heap l.out.p 0)
  | (go_at_call 137;refine(zd8 f.out _ i.1 i.2 o.out l.out).mono ?_;rintro e w3 ⟨rfl,b⟩))
 all_goals
  have Z:=hid b;have hz3:=b.lt;have f3:=b.fz;obtain⟨m0,m1⟩:=b.mem;obtain⟨_,_,_,_,_,s13,s14⟩:=b.cells;clear b t l Y r0 r1 r2 r3 r4 r5 r6 r7 r8 r9 M N P T V I;generalize u:C.push q.m y (C.sign y.c)=z at *;have HZ:=hid u;clear u;have v:=hid ((Z.out.putMay f.out false).putWaits f.out false);go_wp2_with (go_at_call 86;refine(tP f.out a ha E _ z.s v.out.inv).mono ?_;rintro e w5 ⟨rfl,hI5,hm5⟩;have g:=hid (v.out.moved f.out hI5 hm5);obtain⟨t8,_⟩:=g.out.cells;have f5:=g.out.fz;have z5:=g.out.lt;have HQ6:=hid (g.out.putPC f.out _ (f.out.word z.s a).1 (f.out.word z.s a).2))
  go_end0;have B:=HY.out;have hz:=HZ.out;subst B;subst hz;exact⟨U,HQ6.out⟩
theorem qr(R:QS q)(n:Int)(g:0<=n)(a:n<=65535)(d:Nat)(f:d<8)(bo:Nat)(h:SW q L w W x)(i:W.cell? ⟨bo,1,none⟩=some (.int .i64 d)):Calls prog 143 #[.int .u16 n,pb w.heap.size,pb bo] W λe w'=>e=.returned (.tuple #[])/\SW q L w w' ⟨x.c.set d n,x.s,x.n⟩:=by
 have j:(d:Int)<8:=by omega
 have k:(0:Int)<=d:=by omega
 have o:=h.reg d f;have l:=h.lt;have p:=h.fz d;have m:=aG W _ i;have b:=hid (h.putR R d f n g a);clear h R;go_enter func143,ntmps143;go_wp2;go_end0;exact⟨U,b.out⟩
theorem zeB(R:QS q)(n:Int)(m:0<=n)(c:n<=65535)(a b:Bool)(h:SW q L w W x):Calls prog 144 #[.int .u16 n,.bool a,.bool b,pb w.heap.size] W λe w'=>e=.returned (.tuple #[])/\SW q L w w' (C.signs x n a b):=by
 obtain⟨o,c9,d,f,g,i,j⟩:=h.cells;have k:=h.lt;have p:=h.fz;have l:=hid ((((h.putZ R (n == 0)).putN R (decide (32768<=n))).putC R a).putV R b);clear h R;go_enter func144,ntmps144;go_wp2;go_end0;exact⟨U,l.out⟩
end
structure Inp where
 c:Int
 p:Int
 d:Int
structure Lin where
 f:Int
 l:Int
 px:Nat->Nat
def Pd.press(p:Pd)(x:Int):Pd:=⟨x,p.l,et p.l x p.s⟩
def Mach.press(M:Mach)(x:Inp):Mach:=if x.p=0 then { M with p0:=M.p0.press x.d } else { M with p1:=M.p1.press x.d }
def Mach.pressed(M:Mach):List Inp->Mach
 | []=>M
 | x::l=>if x.c<=M.clock then (M.press x).pressed l else M
def Mach.coming(M:Mach):List Inp->List Inp
 | []=>[]
 | x::l=>if x.c<=M.clock then M.coming l else x::l
def Mach.line(M:Mach):List Lin:=if M.b.a=0/\M.b.l<8 then [⟨M.b.f,M.b.l,px M.video M.b.l.toNat⟩] else []
def Mach.sample(M:Mach):List UInt8:=if M.s.w=0 then ku M.s 1 else []
def Bst.stepMain(s:Bst):Bst :=
 if s.M.clock<s.M.mready then s else
  let y:=C.step bD s.M.main ⟨s.M,0,s.l⟩ (s.M.t.g || s.M.b.g)
  ⟨{ y.s.M with main:=y.c,mready:=y.s.M.clock+3*y.n+y.s.n },y.s.n,y.s.l⟩
def Bst.stepAux(s:Bst):Bst :=
 if s.M.held=true \/ s.M.clock<s.M.aready then s else
  let y:=C.step bY s.M.aux s s.M.rung
  ⟨{ y.s.M with aux:=y.c,aready:=y.s.M.clock+5*y.n },y.s.n,y.s.l⟩
def Bem.one(b:Bem):Bem:=if na b.l b.a b.f then ⟨jI b.l b.a 1,i6 b.l b.a 1,lK b.l b.a b.g 1,j3 b.l b.a b.f 1⟩ else ⟨0,0,false,0⟩
def Mach.goOn(M:Mach):Mach:={ M with t:=⟨M.t.r,kZ M.t.r M.t.c M.t.on,M.t.on,lr M.t.c M.t.on M.t.g⟩,s:=M.s.ticks 1,b:=M.b.one,clock:=M.clock+1 }
structure Cs where
 s:Bst
 co:List Inp
 ln:List Lin
 sm:List UInt8
def Cs.now(c:Cs):Cs :=
 let M:=c.s.M.pressed c.co
 ⟨(Bst.stepMain ⟨M,c.s.n,c.s.l⟩).stepAux,c.s.M.coming c.co,c.ln++M.line,c.sm++M.sample⟩
def Cs.clock(c:Cs):Cs:={ c.now with s:=⟨c.now.s.M.goOn,c.now.s.n,c.now.s.l⟩ }
def Cs.clocks(c:Cs):Nat->Cs
 | 0=>c
 | k+1=>(c.clocks k).clock
/-! ### what is in range stays in range -/
theorem Bem.one_ok{b:Bem}(h:BOr b.l b.a b.f):BOr b.one.l b.one.a b.one.f:=by
 unfold Bem.one;split
 ·rename_i hb
  have c:=(oK _ _ _).1 hb;have:=c.l0;have:=c.l1;have:=c.a0;have:=c.a1;have:=c.f0;have:=c.f1;refine⟨?_,?_,?_,?_,?_,?_⟩ <;> simp only[jI,i6,j3] <;> omega
 ·exact⟨by decide,by decide,by decide,by decide,by decide,by decide⟩
theorem pa{r c:Int}{on:Bool}(a:fu r)(hc:fu c):fu (kZ r c on):=by
 unfold kZ fu at *;split
 ·split <;> omega
 ·omega
theorem znI{M:Mach}(h:M.fit)(hc:M.clock<200000):M.goOn.fit where
 main:=h.main
 aux:=h.aux
 p0:=h.p0
 p1:=h.p1
 tr:=h.tr
 tc:=pa h.tr h.tc
 s:=(Sd.ticks_fit (k:=1) (s:=M.s) { h.s with w:=h.w }).took
 fr:=h.fr
 «to»:=h.to
 m0:=h.m0
 m1:=h.m1
 mrom:=h.mrom
 arom:=h.arom
 ram:=h.ram
 own:=h.own
 video:=h.video
 w:=(Sd.ticks_fit (k:=1) (s:=M.s) { h.s with w:=h.w }).w
 b:=Bem.one_ok h.b
 clock:=by have:=h.clock;show 0<=M.clock+1/\M.clock+1<=200000;omega
 mready:=by have:=h.mready;show 0<=M.mready/\M.mready<=M.clock+1+20000;omega
 aready:=by have:=h.aready;show 0<=M.aready/\M.aready<=M.clock+1+20000;omega
theorem Pd.press_ok{p:Pd}(h:p.ok){x:Int}(a:0<=x/\x<=255):(p.press x).ok:=⟨a,by
 show 0<=et p.l x p.s/\et p.l x p.s<=255;unfold et;have:=h.s;split <;> omega⟩
theorem kt{P:Program}{a:Act}{o:Oper}{w:World}(ty:TypeId)(x:Operand)(d:o.op=.load ty x)(b off:Nat)(e:a.eval x=.pointer (some ⟨b,off,none⟩))(cs:List Value)(u:TypeDesc)(hc:w.rangeAt b off cs)(f:P.underlying ty=some u)(c:u.isRow=true)(hi:(P.info? ty).map (·.size)=some cs.length):(execOp a.eval o).run P w=.ok (.value (.agg cs.toArray)) w:=by
 unfold execOp;simp only[d,e,fj,run_loadAt_mid w b off ty cs u hc f c hi,dx,fk]
def vP(F:Fx)(vco vln vsm:Value):List Value:=[pt F.g 0,vco,vln,vsm,.slice none 0 0,pt F.g 0]
structure CB (F : Fx) (N c : Nat) (vco vln vsm : Value) (w : World) : Prop where
 n:N<=c
 blk:w.heap[c]?=some (.cells (vP F vco vln vsm).toArray 91 (0,0))
section
variable {F : Fx} {N c : Nat} {vco vln vsm : Value} {w w1 : World} {s s' : Bst}
theorem CB.z(h:CB F N c vco vln vsm w):c<w.heap.size:=(ay.1 h.blk).1
theorem CB.bx(h:CB F N c vco vln vsm w):Bx w c (vP F vco vln vsm):=⟨h.z,λj v a=>(Lib.cell_of_heap h.blk (0+j)).trans (by rw[aN,bw];exact a),λo=>Lib.frozen_of_heap h.blk o⟩
theorem CB.out(h:CB F N c vco vln vsm w):¬ Tw (BT N) w s c:=Tw.of (λe=>kl.2 h.n e) h.blk (by decide)
theorem CB.same(h:CB F N c vco vln vsm w)(e:w1.heap[c]?=w.heap[c]?):CB F N c vco vln vsm w1:=⟨h.n,e.trans h.blk⟩
theorem CB.kept(h:CB F N c vco vln vsm w)(hb:Below w.heap.size w w1):CB F N c vco vln vsm w1:=h.same (hb.block c h.z)
structure NM (F : Fx) (N : Nat) (w : World) (s s' : Bst) (w1 : World) : Prop where
 i:BI F N w1 s'
 m:Mv F.B (Tw (BT N) w s) (Tw (BT N) w1 s') w w1
theorem NM.cb(h:NM F N w s s' w1)(hc:CB F N c vco vln vsm w):CB F N c vco vln vsm w1:=hc.same (h.m.block c hc.z hc.out)
theorem NM.trans{s2:Bst}{w2:World}(h:NM F N w s s' w1)(k:NM F N w1 s' s2 w2):NM F N w s s2 w2:=⟨k.i,h.m.trans k.m⟩
theorem BI.big(h:BI F N w s):F.B<=w.heap.size:=by obtain⟨v,hB⟩:=h.bd;exact hB.big
theorem BI.kept(a:Fb F N)(h:BI F N w s)(hb:Below w.heap.size w w1):BI F N w1 s:=h.keep a hb.size (λk b=>hb.block k (b.lt (λj c=>ap c h.N)))
theorem NM.refl(a:Fb F N)(h:BI F N w s)(hb:Below w.heap.size w w1):NM F N w s s w1:=⟨h.kept a hb,(Mv.of_below (T:=Tw (BT N) w s) h.big hb).weak (λk b=>b.low hb)⟩
theorem NM.of(a:Fb F N)(b:BI F N w s)(c:0<=s'.n){v:Value}(hB:Bd F w1 s'.M ⟨s'.n,s'.l,v⟩)(d:Bt F w w1):NM F N w s s' w1:=by
 obtain⟨h1,h2⟩:=BE.out a b (⟨⟨v,hB⟩,d.w⟩:BE F w w1 s') c;exact⟨h1,h2⟩
theorem Bd.mainR{W:World}{M:Mach}{tk:Tk}(h:Bd F W M tk):W.rangeAt F.g 0 (bG M.main):=λi v hi=>by
 refine h.at (0+i) v ?_;have a:=(aA.1 hi).1;have hc:i=0 \/ i=1 \/ i=2 \/ i=3 \/ i=4 \/ i=5 \/ i=6 \/ i=7 \/ i=8 \/ i=9 \/ i=10 \/ i=11 \/ i=12 \/ i=13 \/ i=14:=by simp[bG] at a;omega
 rcases hc with rfl|rfl|rfl|rfl|rfl|rfl|rfl|rfl|rfl|rfl|rfl|rfl|rfl|rfl|rfl <;> exact hi
theorem Bd.auxR{W:World}{M:Mach}{tk:Tk}(h:Bd F W M tk):W.rangeAt F.g 15 (bG M.aux):=λi v hi=>by
 refine h.at (15+i) v ?_;have a:=(aA.1 hi).1;have hc:i=0 \/ i=1 \/ i=2 \/ i=3 \/ i=4 \/ i=5 \/ i=6 \/ i=7 \/ i=8 \/ i=9 \/ i=10 \/ i=11 \/ i=12 \/ i=13 \/ i=14:=by simp[bG] at a;omega
 rcases hc with rfl|rfl|rfl|rfl|rfl|rfl|rfl|rfl|rfl|rfl|rfl|rfl|rfl|rfl|rfl <;> exact hi
theorem pF(c:C.Cpu):(bG c).toArray.all (·.oneCell')=true:=by simp[bG,Value.oneCell']
end
section
variable {F : Fx} {N c : Nat} {vco vln vsm : Value} {w w1 : World} {s s' : Bst}
structure XM (F : Fx) (N c : Nat) (vco vln vsm : Value) (w : World) (s : Bst) (M : Mach) (l : List Wt) (Y : World) : Prop where
 nm:NM F N w s ⟨M,0,l⟩ Y
 cb:CB F N c vco vln vsm Y
theorem XM.i{M:Mach}{l:List Wt}{Y:World}(h:XM F N c vco vln vsm w s M l Y):BI F N Y ⟨M,0,l⟩:=h.nm.i
theorem XM.ss{M:Mach}{l:List Wt}{Y:World}{a bg:Bool}(h:XM F N c vco vln vsm w s M l Y)(e1:M.t.g=a)(e2:M.b.g=bg):Y.cell? ⟨c,5,none⟩=some (pt F.g 0)/\Y.rangeAt F.g 0 (bG M.main)/\Y.cell? ⟨F.g,44,none⟩=some (.bool a)/\Y.cell? ⟨F.g,63,none⟩=some (.bool bg):=by
 obtain⟨v,hB⟩:=h.nm.i.bd;subst e1;subst e2;exact⟨h.cb.bx.at 5 _ U,hB.mainR,hB.at 44 _ U,hB.at 63 _ U⟩
theorem XM.kept'{M:Mach}{l:List Wt}{Y Y':World}(a:Fb F N)(h:XM F N c vco vln vsm w s M l Y)(hb:Below Y.heap.size Y Y'):XM F N c vco vln vsm w s M l Y':=⟨h.nm.trans (NM.refl a h.nm.i hb),h.cb.kept hb⟩
structure XN (F : Fx) (N c : Nat) (vco vln vsm : Value) (w : World) (s s' : Bst) (Y : World) : Prop where
 nm:NM F N w s s' Y
 cb:CB F N c vco vln vsm Y
theorem Lk.stepMain(hF:Fb F N)(hI:BI F N w s)(hc:CB F N c vco vln vsm w):Calls prog 61 #[pt c 0] w λe w'=>e=.returned (.tuple #[])/\NM F N w s s.stepMain w':=by
 have k0:=hc.bx.at 0 _ U;have k5:=hc.bx.at 5 _ U;have kz:=hc.z;obtain⟨v,hB⟩:=hI.bd;obtain⟨M,n,l⟩:=s;have I:=hB.at 72 (.int .i64 M.clock) U;have m73:=hB.at 73 (.int .i64 M.mready) U;have L:=hB.at 75 (.int .i64 n) U;have mz:=hB.bx.z;have mf:=hB.bx.f 75;have m:=hid hF;have HI:=hid hI;have HC:=hid hc;have HB:=hid hB;clear hF hI hc hB;by_cases hr:M.clock<M.mready
 ·have e0:Bst.stepMain ⟨M,n,l⟩=⟨M,n,l⟩:=by unfold Bst.stepMain;exact Q hr
  rw[e0];go_enter func61,ntmps61;go_wp2;go_quiet (fail)
  go_wp2;exact ao (v:=.tuple #[]) (by simp[results,results61,go_sem]) U ⟨U,NM.refl m.out HI.out (Bl.drewN (J w) nq)⟩
 ·obtain⟨y,hy⟩:∃ y,y=C.step bD M.main ⟨M,0,l⟩ (M.t.g || M.b.g):=⟨_,U⟩
  obtain⟨d,P⟩:∃ d:Mach,d={ y.s.M with main:=y.c }:=⟨_,U⟩
  have e0:Bst.stepMain ⟨M,n,l⟩=⟨{ d with mready:=d.clock+3*y.n+y.s.n },y.s.n,y.s.l⟩:=by rw[P,hy];unfold Bst.stepMain;exact G hr
  rw[e0];have HM3:=hid P;clear P;have hr':M.mready<=M.clock:=by omega
  obtain⟨tg,R⟩:∃ b,M.t.g=b:=⟨_,U⟩
  obtain⟨bg,T⟩:∃ b,M.b.g=b:=⟨_,U⟩
  have hfu:4<=bD.fuel ⟨M,0,l⟩:=by show 4<=(1000000000000-(0:Int)).toNat/510;decide
  have X:∀ W,BI F N W ⟨M,0,l⟩->Calls prog 113 #[.agg (bG M.main).toArray,iX F.g 77,.bool (M.t.g || M.b.g)] W λe w'=>e=.returned (.tuple #[.agg (bG y.c).toArray,.int .i64 y.n])/\BI F N w' y.s/\Mv F.B (Tw (BT N) W ⟨M,0,l⟩) (Tw (BT N) w' y.s) W w'/\y.c.ok:=λW h=>by
   rw[hy];exact zu4 (zis m.out) (M.t.g || M.b.g) W M.main ⟨M,0,l⟩ HB.out.fit.main hfu h
  rw[R,T] at X;have r:0<=y.n/\y.n<=21:=by rw[hy];exact C.step_n _ _ _ (lZ _ (zic (zis m.out) _ _)).1
  have hfl:bD.fuel ⟨M,0,l⟩<=bD.fuel y.s+4:=by rw[hy];exact C.fuel_step (zis m.out).frd (zis m.out).fwr _ _ _
  have x:y.s.n<=2550:=by
   have h0:(1000000000000-(0:Int)).toNat/510<=(1000000000000-y.s.n).toNat/510+4:=hfl;omega
  have HD:=hid X;have Z:=hid R;have HBG:=hid T;have HYN:=hid r;have HSN:=hid x;clear R T hy e0 hfu X hfl hr r x;go_enter func61,ntmps61;go_wp2;go_quiet (fail)
  go_upto_region 4 with fail
  have hB0:=(HB.out.drewN nq).put (M':=M) (tk':=⟨0,l,v⟩) 75 (.int .i64 0) (by omega) U ⟨U,U,U,U,U⟩ HB.out.fit;refine Pl.cutW (XM F N c vco vln vsm w ⟨M,n,l⟩ M l) ⟨NM.of m.out HI.out (iO 0) hB0 (Bt.set HB.out.nd (Bt.kept (Bt.refl F w) HB.out.big (Bl.drewN (J w) nq)) 75 _),HC.out.same (dy (W:=w.drewN nq) (λe=>by have:=HC.out.n;have:=m.out.into.g;omega))⟩ ?_;intro Y hY;have HX:=hid (hY.kept' m.out (J Y).drew);have a:=(hY.kept' m.out (J Y).drew).ss Z.out HBG.out;clear hY hB0 HB HI HC k0 k5 kz I m73 L mz mf hr';refine mI (S:=λw'=>w'.cell? ⟨c,5,none⟩=some (pt F.g 0)/\w'.rangeAt F.g 0 (bG M.main)/\w'.cell? ⟨F.g,44,none⟩=some (.bool tg)/\w'.cell? ⟨F.g,63,none⟩=some (.bool bg)) (st:=22) (by kernel_rfl) ?_;refine bI 0 (λ_=>a) ?_;refine bI 1 (λ_=>a) ?_;refine bI 2 (λ_=>a) ?_;refine bI 3 (λ_=>a) ?_;refine bI 5 (λ_=>a) ?_;refine bI 6 (λ_=>a) ?_;refine bI 7 (λ_=>a) ?_;refine bI 10 (λ_=>a) ?_;refine bI 11 (λ_=>a) ?_
  refine bI 12 (λ_=>a) ?_;refine bI 13 (λ_=>a) ?_;refine nV [] 4 (.agg (bG M.main).toArray) U (λw' k=>kt 25 _ U F.g 0 U (bG M.main) _ k.2.1 underlying25 U lV) a ?_;refine j1 [9] 8 (λ_ k=>k.1) a ?_;refine j1 [15] 14 (λ_ k=>k.2.2.1) a ?_;refine fP 9 (λK E=>?_);go_simp;go_at_call 69
  refine(zfC F.g _).mono ?_;rintro e w1 ⟨rfl,hb1⟩;have o:=hid (HX.out.kept' m.out hb1);clear hb1;try go_wp2_with fail
  refine gL E (λ_=>o.out.ss Z.out HBG.out) ?_;clear E K;clear a;have a:=o.out.ss Z.out HBG.out;refine bI 15 (λ_=>a) ?_;cases tg
  case' false =>
   refine bI 16 (λ_=>a) ?_;refine bI 17 (λ_=>a) ?_;refine bI 18 (λ_=>a) ?_;refine bI 19 (λ_=>a) ?_;refine j1 [21] 20 (λ_ k=>k.2.2.2) a ?_
  case' true =>
   refine kH (i:=16) (oi:={ dst:=some 40,op:=_,type:=_,pos:=_,after:=_,guard:=some (15,false) }) (v:=undef) U (by kernel_rfl) (by kernel_rfl) (by kernel_rfl) (by decide) (λ_ _ _ h=>h) (Or.inr ⟨by rfl,U⟩) (λ_=>a) ?_;simp only[Act.put,xA,xB,xC];refine kH (i:=17) (oi:={ dst:=some 41,op:=_,type:=_,pos:=_,after:=_,guard:=some (15,false) }) (v:=undef) U (by kernel_rfl) (by kernel_rfl) (by kernel_rfl) (by decide) (λ_ _ _ h=>h) (Or.inr ⟨by rfl,U⟩) (λ_=>a) ?_;simp only[Act.put,xA,xB,xC];refine kH (i:=18) (oi:={ dst:=some 42,op:=_,type:=_,pos:=_,after:=_,guard:=some (15,false) }) (v:=undef) U (by kernel_rfl) (by kernel_rfl) (by kernel_rfl) (by decide) (λ_ _ _ h=>h) (Or.inr ⟨by rfl,U⟩) (λ_=>a) ?_;simp only[Act.put,xA,xB,xC];refine kH (i:=19) (oi:={ dst:=some 43,op:=_,type:=_,pos:=_,after:=_,guard:=some (15,false) }) (v:=undef) U (by kernel_rfl) (by kernel_rfl) (by kernel_rfl) (by decide) (λ_ _ _ h=>h) (Or.inr ⟨by rfl,U⟩) (λ_=>a) ?_
   simp only[Act.put,xA,xB,xC];refine kH (i:=20) (oi:={ dst:=some 44,op:=_,type:=_,pos:=_,after:=_,guard:=some (15,false) }) (v:=undef) U (by kernel_rfl) (by kernel_rfl) (by kernel_rfl) (by decide) (λ_ _ _ h=>h) (Or.inr ⟨by rfl,U⟩) (λ_=>a) ?_;simp only[Act.put,xA,xB,xC]
  all_goals
   refine bI 21 (λ_=>a) ?_;refine fP 22 (λK E=>?_);go_simp;go_at_call 113
   refine(HD.out _ o.out.i).mono ?_;rintro e w2 ⟨rfl,hI2,hm2,hk2⟩;have q:=hid hI2;have HM2:=hid hm2;have HK2:=hid hk2;clear hI2 hm2 hk2;try go_wp2_with fail
   refine gL E (λh=>by simp at h) ?_;clear E K;refine bI 23 (λh=>by simp at h) ?_;refine bI 24 (λh=>by simp at h) ?_;refine bI 25 (λh=>by simp at h) ?_;refine bI 26 (λh=>by simp at h) ?_;refine bI 27 (λh=>by simp at h) ?_;obtain⟨v2,hB2⟩:=q.out.bd;have p:=hid hB2;clear hB2;refine fP 28 (λK E=>?_);refine lW U 25 _ _ U F.g 0 (bG y.c).toArray U U (Bx.there p.out.bx 0 15 (by rw[Fx.len];omega)) lV (pF y.c) ?_;refine E.out _ _ (λh=>by simp at h) ?_;clear E K;refine bI 29 (λh=>by simp at h) ?_;refine lL (by kernel_rfl) ?_ _;refine Pl.cutE (XN F N c vco vln vsm w ⟨M,n,l⟩ ⟨d,y.s.n,y.s.l⟩) ?_ ?_
   ·have hx:NM F N w1 ⟨M,0,l⟩ ⟨d,y.s.n,y.s.l⟩ (w2.setCells F.g 0 (bG y.c)):=(⟨q.out,HM2.out⟩:NM F N w1 ⟨M,0,l⟩ y.s w2).trans (NM.of (s':=⟨d,y.s.n,y.s.l⟩) m.out q.out q.out.n (by rw[HM3.out];exact p.out.puts (M':={ y.s.M with main:=y.c }) (tk':=⟨y.s.n,y.s.l,v2⟩) 0 (bG y.c) (by simp[bG]) (F.putMain y.s.M _ y.c) ⟨U,U,U,U,U⟩ { p.out.fit with main:=HK2.out,aux:=p.out.fit.aux }) (Bt.sets p.out.nd (bG y.c) 0 _ (Bt.refl F w2)))
    exact⟨o.out.nm.trans hx,hx.cb o.out.cb⟩
   intro V hV;obtain⟨v3,j⟩:=hV.nm.i.bd;have k5:=hV.cb.bx.at 5 _ U;have kz:=hV.cb.z;have I:=j.at 72 (.int .i64 d.clock) U;have L:=j.at 75 (.int .i64 y.s.n) U;have m73:=j.at 73 (.int .i64 d.mready) U;have mz:=j.bx.z;have mf:=j.bx.f 73;have hcl:0<=d.clock/\d.clock<=200000:=j.fit.clock;have hne:c≠F.g:=λe=>by have:=hV.cb.n;have:=m.out.into.g;omega
   have hne':F.g≠c:=λe=>hne e.symm
   have hn0:0<=y.s.n:=hV.nm.i.n;have r:=HYN.out;have x:=HSN.out;have w1':IntKind.i64.wrap (3*y.n)=3*y.n:=by rw[aI];omega
   have w2':IntKind.i64.wrap (d.clock+3*y.n)=d.clock+3*y.n:=by rw[aI];omega
   have w3':IntKind.i64.wrap (d.clock+3*y.n+y.s.n)=d.clock+3*y.n+y.s.n:=by rw[aI];omega
   have H:Mach.fit { d with mready:=d.clock+3*y.n+y.s.n }:={ j.fit with main:=j.fit.main,mready:=by show 0<=d.clock+3*y.n+y.s.n/\d.clock+3*y.n+y.s.n<=d.clock+20000;omega }
   have HV:=hid hV;have HB3:=hid j;have HFI:=hid H;have HKP:Hid (∀ u,(V.setCell ⟨F.g,73,none⟩ u).drew.cell? ⟨c,5,none⟩=some (pt F.g 0)/\(V.setCell ⟨F.g,73,none⟩ u).drew.cell? ⟨F.g,72,none⟩=some (.int .i64 d.clock)/\(V.setCell ⟨F.g,73,none⟩ u).drew.cell? ⟨F.g,75,none⟩=some (.int .i64 y.s.n)):=λu=>⟨(am (w:=V) (dy hne)).trans k5,(az _ _ _ _ (by simp)).trans I,(az _ _ _ _ (by simp)).trans L⟩
   clear hV j H HX o q HM2 HK2 p HD a r x hcl hn0;go_wp2;go_region_held3 (λw'=>w'.cell? ⟨c,5,none⟩=some (pt F.g 0)/\w'.cell? ⟨F.g,72,none⟩=some (.int .i64 d.clock)/\w'.cell? ⟨F.g,75,none⟩=some (.int .i64 y.s.n))
    (first|(go_keep;done)|with_reducible exact HKP.out _)
    (fail)
   go_wp2;go_end0;refine⟨U,HV.out.nm.trans (NM.of (s':=⟨{ d with mready:=d.clock+3*y.n+y.s.n },y.s.n,y.s.l⟩) m.out HV.out.nm.i HV.out.nm.i.n (v:=v3) ?_ ?_)⟩
   ·exact(HB3.out.drew).put (M':={ d with mready:=d.clock+3*y.n+y.s.n }) (tk':=⟨y.s.n,y.s.l,v3⟩) 73 _ (by omega) U ⟨U,U,U,U,U⟩ HFI.out
   ·exact Bt.set HB3.out.nd (Bt.kept (Bt.refl F V) HB3.out.big (J V).drew) 73 _
end
section
variable {F : Fx} {N c : Nat} {vco vln vsm : Value} {w w1 : World} {s s' : Bst}
theorem XN.kept'{Y Y':World}(a:Fb F N)(h:XN F N c vco vln vsm w s s' Y)(hb:Below Y.heap.size Y Y'):XN F N c vco vln vsm w s s' Y':=⟨h.nm.trans (NM.refl a h.nm.i hb),h.cb.kept hb⟩
theorem XN.sa{M:Mach}{n:Int}{l:List Wt}{Y:World}(h:XN F N c vco vln vsm w s ⟨M,n,l⟩ Y):Y.cell? ⟨c,5,none⟩=some (pt F.g 0)/\Y.rangeAt F.g 15 (bG M.aux)/\Y.cell? ⟨F.g,71,none⟩=some (.bool M.rung):=by
 obtain⟨v,hB⟩:=h.nm.i.bd;exact⟨h.cb.bx.at 5 _ U,hB.auxR,hB.at 71 _ U⟩
theorem Lk.stepAux(hF:Fb F N)(hI:BI F N w s)(hc:CB F N c vco vln vsm w)(hl:s.l.length<=1000000):Calls prog 62 #[pt c 0] w λe w'=>e=.returned (.tuple #[])/\NM F N w s s.stepAux w':=by
 have k0:=hc.bx.at 0 _ U;have kz:=hc.z;obtain⟨v,hB⟩:=hI.bd;obtain⟨M,n,l⟩:=s;have I:=hB.at 72 (.int .i64 M.clock) U;have L:=hB.at 74 (.int .i64 M.aready) U;have mz:=hB.bx.z;have p:=hid hF;have HI:=hid hI;have HC:=hid hc;have HB:=hid hB;clear hF hI hc;by_cases u:M.held=true
 ·have P:w.cell? ⟨F.g,68,none⟩=some (.bool true):=by rw[<- u];exact hB.at 68 (.bool M.held) U
  have H:Bst.stepAux ⟨M,n,l⟩=⟨M,n,l⟩:=by unfold Bst.stepAux;exact Q (Or.inl u)
  rw[H];clear hB u hl;go_enter func62,ntmps62;go_wp2;go_quiet (fail)
  go_wp2;exact ao (v:=.tuple #[]) (by simp[results,results62,go_sem]) U ⟨U,NM.refl p.out HI.out (Bl.drewN (J w) nq)⟩
 ·have x:M.held=false:=by simpa using u
  have P:w.cell? ⟨F.g,68,none⟩=some (.bool false):=by rw[<- x];exact hB.at 68 (.bool M.held) U
  by_cases hr:M.clock<M.aready
  ·have H:Bst.stepAux ⟨M,n,l⟩=⟨M,n,l⟩:=by unfold Bst.stepAux;exact Q (Or.inr hr)
   rw[H];clear hB u x hl;go_enter func62,ntmps62;go_wp2;go_quiet (fail)
   go_wp2;exact ao (v:=.tuple #[]) (by simp[results,results62,go_sem]) U ⟨U,NM.refl p.out HI.out (Bl.drewN (J w) nq)⟩
  ·obtain⟨y,hy⟩:∃ y,y=C.step bY M.aux ⟨M,n,l⟩ M.rung:=⟨_,U⟩
   obtain⟨a,E⟩:∃ a:Mach,a={ y.s.M with aux:=y.c }:=⟨_,U⟩
   have H:Bst.stepAux ⟨M,n,l⟩=⟨{ a with aready:=a.clock+5*y.n },y.s.n,y.s.l⟩:=by
    rw[E,hy];unfold Bst.stepAux;exact G (λe=>e.elim u hr)
   rw[H];have HM3:=hid E;have hr':M.aready<=M.clock:=by omega
   have R:4<=bY.fuel ⟨M,n,l⟩:=by
    show 4<=1000000001-l.length;have:l.length<=1000000:=hl;omega
   have T:∀ W,BI F N W ⟨M,n,l⟩->Calls prog 113 #[.agg (bG M.aux).toArray,iX F.g 143,.bool M.rung] W λe w'=>e=.returned (.tuple #[.agg (bG y.c).toArray,.int .i64 y.n])/\BI F N w' y.s/\Mv F.B (Tw (BT N) W ⟨M,n,l⟩) (Tw (BT N) w' y.s) W w'/\y.c.ok:=λW h=>by
    rw[hy];exact zu4 (znA p.out) M.rung W M.aux ⟨M,n,l⟩ HB.out.fit.aux R h
   have q:0<=y.n/\y.n<=21:=by rw[hy];exact C.step_n _ _ _ (lZ _ (zic (znA p.out) _ _)).1
   have HD:=hid T;have HYN:=hid q;clear E hy H R T hr q u x hB hl;go_enter func62,ntmps62;go_wp2;go_quiet (fail)
   go_upto_region 3 with fail
   refine Pl.cutW (XN F N c vco vln vsm w ⟨M,n,l⟩ ⟨M,n,l⟩) ⟨NM.refl p.out HI.out (Bl.drewN (J w) nq),HC.out.kept (Bl.drewN (J w) nq)⟩ ?_;intro Y hY;have HX:=hid (hY.kept' p.out (J Y).drew);have d:=(hY.kept' p.out (J Y).drew).sa;clear hY HB HI HC k0 kz I L P mz hr';refine mI (S:=λw'=>w'.cell? ⟨c,5,none⟩=some (pt F.g 0)/\w'.rangeAt F.g 15 (bG M.aux)/\w'.cell? ⟨F.g,71,none⟩=some (.bool M.rung)) (st:=14) (by kernel_rfl) ?_;refine bI 0 (λ_=>d) ?_;refine bI 1 (λ_=>d) ?_;refine bI 2 (λ_=>d) ?_;refine bI 3 (λ_=>d) ?_;refine bI 5 (λ_=>d) ?_;refine bI 6 (λ_=>d) ?_;refine bI 7 (λ_=>d) ?_;refine bI 10 (λ_=>d) ?_;refine bI 11 (λ_=>d) ?_;refine bI 12 (λ_=>d) ?_;refine nV [] 4 (.agg (bG M.aux).toArray) U (λw' m=>kt 25 _ U F.g 15 U (bG M.aux) _ m.2.1 underlying25 U lV) d ?_;refine j1 [9] 8 (λ_ m=>m.1) d ?_;refine j1 [] 13 (λ_ m=>m.2.2) d ?_;refine fP 9 (λK r=>?_);go_simp;go_at_call 114
   refine(zha F.g _).mono ?_;rintro e w1 ⟨rfl,X⟩;have j:=hid (HX.out.kept' p.out X);clear X;try go_wp2_with fail
   refine gL r (λ_=>j.out.sa) ?_;clear r K;clear d;have d:=j.out.sa;refine fP 14 (λK r=>?_);go_simp;go_at_call 113
   refine(HD.out _ j.out.nm.i).mono ?_;rintro e w2 ⟨rfl,Z,hm2,hk2⟩;have o:=hid Z;have HM2:=hid hm2;have HK2:=hid hk2;clear Z hm2 hk2;try go_wp2_with fail
   refine gL r (λh=>by simp at h) ?_;clear r K;refine bI 15 (λh=>by simp at h) ?_;refine bI 16 (λh=>by simp at h) ?_;refine bI 17 (λh=>by simp at h) ?_;refine bI 18 (λh=>by simp at h) ?_;refine bI 19 (λh=>by simp at h) ?_;obtain⟨v2,hB2⟩:=o.out.bd;have k:=hid hB2;clear hB2;refine fP 20 (λK r=>?_);refine lW U 25 _ _ U F.g 15 (bG y.c).toArray U U (Bx.there k.out.bx 15 15 (by rw[Fx.len];omega)) lV (pF y.c) ?_;refine r.out _ _ (λh=>by simp at h) ?_;clear r K;refine bI 21 (λh=>by simp at h) ?_;refine lL (by kernel_rfl) ?_ _;refine Pl.cutE (XN F N c vco vln vsm w ⟨M,n,l⟩ ⟨a,y.s.n,y.s.l⟩) ?_ ?_
   ·have hx:NM F N w1 ⟨M,n,l⟩ ⟨a,y.s.n,y.s.l⟩ (w2.setCells F.g 15 (bG y.c)):=(⟨o.out,HM2.out⟩:NM F N w1 ⟨M,n,l⟩ y.s w2).trans (NM.of (s':=⟨a,y.s.n,y.s.l⟩) p.out o.out o.out.n (by rw[HM3.out];exact k.out.puts (M':={ y.s.M with aux:=y.c }) (tk':=⟨y.s.n,y.s.l,v2⟩) 15 (bG y.c) (by simp[bG]) (F.putAux y.s.M _ y.c) ⟨U,U,U,U,U⟩ { k.out.fit with main:=k.out.fit.main,aux:=HK2.out }) (Bt.sets k.out.nd (bG y.c) 15 _ (Bt.refl F w2)))
    exact⟨j.out.nm.trans hx,hx.cb j.out.cb⟩
   intro V hV;obtain⟨v3,b⟩:=hV.nm.i.bd;have I:=b.at 72 (.int .i64 a.clock) U;have L:=b.at 74 (.int .i64 a.aready) U;have mz:=b.bx.z;have mf:=b.bx.f 74;have hcl:0<=a.clock/\a.clock<=200000:=b.fit.clock;have q:=HYN.out;have w1':IntKind.i64.wrap (5*y.n)=5*y.n:=by rw[aI];omega
   have w2':IntKind.i64.wrap (a.clock+5*y.n)=a.clock+5*y.n:=by rw[aI];omega
   have t:Mach.fit { a with aready:=a.clock+5*y.n }:={ b.fit with main:=b.fit.main,aready:=by show 0<=a.clock+5*y.n/\a.clock+5*y.n<=a.clock+20000;omega }
   have HV:=hid hV;have HB3:=hid b;have HFI:=hid t;clear hV b t HX j o HM2 HK2 k HD d q hcl;go_wp2;go_end0;refine⟨U,HV.out.nm.trans (NM.of (s':=⟨{ a with aready:=a.clock+5*y.n },y.s.n,y.s.l⟩) p.out HV.out.nm.i HV.out.nm.i.n (v:=v3) ?_ ?_)⟩
   ·exact HB3.out.put (M':={ a with aready:=a.clock+5*y.n }) (tk':=⟨y.s.n,y.s.l,v3⟩) 74 _ (by omega) U ⟨U,U,U,U,U⟩ HFI.out
   ·exact Bt.set HB3.out.nd (Bt.refl F V) 74 _
end
def bE(B:Nat)(w:World)(v:Value)(l:List Inp):Prop :=
 (l=[] /\ ∃ a c,v=.slice a 0 c) \/ ∃ g o b,v=.slice (some ⟨g,o,none⟩) l.length b/\l.length<=b/\g<B/\g<w.heap.size /\
  ∀ j x,l[j]?=some x->w.cell? ⟨g,o+3*j,none⟩=some (.int .i64 x.c)/\w.cell? ⟨g,o+3*j+1,none⟩=some (.int .i64 x.p)/\w.cell? ⟨g,o+3*j+2,none⟩=some (.int .u8 x.d)
structure Inp.ok (x : Inp) : Prop where
 p:x.p=0 \/ x.p=1
 d:0<=x.d/\x.d<=255
theorem bE.kept{B:Nat}{w w1:World}{v:Value}{l:List Inp}(h:bE B w v l)(hb:Below B w w1):bE B w1 v l:=by
 rcases h with h|⟨g,o,a,h1,h2,h3,h4,b⟩
 ·exact Or.inl h
 ·refine Or.inr ⟨g,o,a,h1,h2,h3,ap h4 hb.size,λj x c=>?_⟩
  obtain⟨e1,e2,e3⟩:=b j x c;exact⟨(am (w:=w) (hb.block g h3)).trans e1,(am (w:=w) (hb.block g h3)).trans e2,(am (w:=w) (hb.block g h3)).trans e3⟩
theorem zdD(M:Mach)(x:Inp):(M.press x).clock=M.clock:=by unfold Mach.press;split <;> rfl
theorem zeX{M:Mach}{x:Inp}{l:List Inp}(h:x.c<=M.clock):M.pressed (x::l)=(M.press x).pressed l:=Q h
theorem zeY(M:Mach)(x:Inp):∀ l:List Inp,(M.press x).coming l=M.coming l
 | []=>rfl
 | y::l=>by
  show (if y.c<=(M.press x).clock then (M.press x).coming l else y::l)=if y.c<=M.clock then M.coming l else y::l
  rw[zdD,zeY M x l]
theorem zfK{M:Mach}{x:Inp}{l:List Inp}(h:x.c<=M.clock):M.coming (x::l)=(M.press x).coming l:=by
 rw[zeY];exact Q h
theorem zjZ{M:Mach}{x:Inp}{l:List Inp}(h:¬ x.c<=M.clock):M.pressed (x::l)=M:=G h
theorem zl0{M:Mach}{x:Inp}{l:List Inp}(h:¬ x.c<=M.clock):M.coming (x::l)=x::l:=G h
theorem zef{M:Mach}(h:M.fit){x:Inp}(a:x.ok):(M.press x).fit:=by
 unfold Mach.press;split
 ·exact { h with main:=h.main,p0:=Pd.press_ok h.p0 a.d }
 ·exact { h with main:=h.main,p1:=Pd.press_ok h.p1 a.d }
section
variable {F : Fx} {N c : Nat} {vco vln vsm : Value} {w w1 w2 : World} {s s' s2 : Bst}
structure KM (F : Fx) (N c : Nat) (w : World) (s s' : Bst) (w1 : World) : Prop where
 i:BI F N w1 s'
 m:Mv F.B (λk=>k=c \/ Tw (BT N) w s k) (λk=>k=c \/ Tw (BT N) w1 s' k) w w1
theorem NM.km(h:NM F N w s s' w1):KM F N c w s s' w1:=⟨h.i,h.m.also c⟩
theorem KM.trans(h:KM F N c w s s' w1)(k:KM F N c w1 s' s2 w2):KM F N c w s s2 w2:=⟨k.i,h.m.trans k.m⟩
theorem KM.set(b:Fb F N)(h:KM F N c w s s' w1)(hB:F.B<=c)(hc:CB F N c vco vln vsm w1)(i:Nat)(v:Value):KM F N c w s s' (w1.setCell ⟨c,i,none⟩ v) :=
 ⟨h.i.keep b (by rw[iF];exact ak _) (λk a=>dy (λe=>hc.out (by rw[<- e];exact a))),(Mv.setCell h.m hB (Or.inl (Or.inl U)) v).weak (λk a=>Or.inl (a.imp id Tw.set))⟩
theorem CB.put1(h:CB F N c vco vln vsm w)(v:Value):CB F N c v vln vsm (w.setCell ⟨c,1,none⟩ v):=⟨h.n,by rw[py h.blk];rfl⟩
theorem CB.put2(h:CB F N c vco vln vsm w)(v:Value):CB F N c vco v vsm (w.setCell ⟨c,2,none⟩ v):=⟨h.n,by rw[py h.blk];rfl⟩
theorem CB.put3(h:CB F N c vco vln vsm w)(v:Value):CB F N c vco vln v (w.setCell ⟨c,3,none⟩ v):=⟨h.n,by rw[py h.blk];rfl⟩
theorem CB.big(h:CB F N c vco vln vsm w)(a:BI F N w s)(b:Fb F N):F.B<=c:=by
 obtain⟨v,hB⟩:=a.bd;have:=hB.nd.lo.1;have:=b.into.g;have:=h.n;omega
theorem ziF(p:Pd):(#[.int .u8 p.d,.bool p.l,.int .u8 p.s]:Array Value).all (·.oneCell')=true:=by simp[Value.oneCell']
theorem Bd.pad0{W:World}{M:Mach}{tk:Tk}(h:Bd F W M tk):W.rangeAt F.g 35 [.int .u8 M.p0.d,.bool M.p0.l,.int .u8 M.p0.s]:=λi v hi=>by
 refine h.at (35+i) v ?_;have a:=(aA.1 hi).1;have hc:i=0 \/ i=1 \/ i=2:=by simp at a;omega
 rcases hc with rfl|rfl|rfl <;> exact hi
theorem Bd.pad1{W:World}{M:Mach}{tk:Tk}(h:Bd F W M tk):W.rangeAt F.g 38 [.int .u8 M.p1.d,.bool M.p1.l,.int .u8 M.p1.s]:=λi v hi=>by
 refine h.at (38+i) v ?_;have a:=(aA.1 hi).1;have hc:i=0 \/ i=1 \/ i=2:=by simp at a;omega
 rcases hc with rfl|rfl|rfl <;> exact hi
end
section
variable {F : Fx} {N c : Nat} {vco vln vsm : Value} {w w1 : World} {s0 s s' : Bst} {l0 : List Inp}
structure XP (F : Fx) (N c : Nat) (vln vsm : Value) (w : World) (s0 s : Bst) (vco : Value) (l : List Inp) (Y : World) : Prop where
 km:KM F N c w s0 s Y
 cb:CB F N c vco vln vsm Y
 co:bE F.B Y vco l
theorem XP.kept{Y Y':World}(a:Fb F N)(h:XP F N c vln vsm w s0 s vco l0 Y)(hb:Below Y.heap.size Y Y'):XP F N c vln vsm w s0 s vco l0 Y' :=
 ⟨h.km.trans (NM.refl a h.km.i hb).km,h.cb.kept hb,h.co.kept (hb.mono h.km.i.big)⟩
structure XQ (F : Fx) (N c : Nat) (vln vsm : Value) (w : World) (s0 s : Bst) (vco : Value) (l : List Inp) (b : Nat) (x : Inp) (Y : World) : Prop extends XP F N c vln vsm w s0 s vco l Y where
 bx:Bx Y b [.int .i64 x.c,.int .i64 x.p,.int .u8 x.d]
theorem XQ.kept'{Y Y':World}{b:Nat}{x:Inp}(a:Fb F N)(h:XQ F N c vln vsm w s0 s vco l0 b x Y)(hb:Below Y.heap.size Y Y'):XQ F N c vln vsm w s0 s vco l0 b x Y':=⟨h.toXP.kept a hb,h.bx.kept hb⟩
theorem XQ.q0{M:Mach}{n:Int}{l:List Wt}{Y:World}{b:Nat}{x:Inp}(h:XQ F N c vln vsm w s0 ⟨M,n,l⟩ vco l0 b x Y)(hp:x.p=0):Y.cell? ⟨c,0,none⟩=some (pt F.g 0)/\Y.cell? ⟨b,1,none⟩=some (.int .i64 0)/\Y.cell? ⟨b,2,none⟩=some (.int .u8 x.d)/\Y.rangeAt F.g 35 [.int .u8 M.p0.d,.bool M.p0.l,.int .u8 M.p0.s]:=by
 obtain⟨v,hB⟩:=h.km.i.bd;exact⟨h.cb.bx.at 0 _ U,by rw[<- hp];exact h.bx.at 1 _ U,h.bx.at 2 _ U,hB.pad0⟩
theorem XQ.q1{M:Mach}{n:Int}{l:List Wt}{Y:World}{b:Nat}{x:Inp}(h:XQ F N c vln vsm w s0 ⟨M,n,l⟩ vco l0 b x Y)(hp:x.p=1):Y.cell? ⟨c,0,none⟩=some (pt F.g 0)/\Y.cell? ⟨b,1,none⟩=some (.int .i64 1)/\Y.cell? ⟨b,2,none⟩=some (.int .u8 x.d)/\Y.rangeAt F.g 38 [.int .u8 M.p1.d,.bool M.p1.l,.int .u8 M.p1.s]:=by
 obtain⟨v,hB⟩:=h.km.i.bd;exact⟨h.cb.bx.at 0 _ U,by rw[<- hp];exact h.bx.at 1 _ U,h.bx.at 2 _ U,hB.pad1⟩
def left(c:Nat)(W:World):Nat:=match W.cell? ⟨c,1,none⟩ with|some (.slice _ n _)=>n|_=>0
theorem zl1{W:World}{a:Option Addr}{n k:Nat}(h:W.cell? ⟨c,1,none⟩=some (.slice a n k)):left c W=n:=by unfold left;rw[h]
theorem bE.len{B:Nat}{v:Value}{l:List Inp}(h:bE B w v l):∃ a k,v=.slice a l.length k:=by
 rcases h with⟨rfl,a,k,e⟩|⟨g,o,k,e,_⟩
 ·exact⟨a,k,e⟩
 ·exact⟨_,k,e⟩
theorem bE.tail{B g o a:Nat}{x:Inp}{b:List Inp}(h:bE B w (.slice (some ⟨g,o,none⟩) (x::b).length a) (x::b)):bE B w (.slice (if a=1 then some ⟨g,o,none⟩ else some ⟨g,o+3,none⟩) b.length (a-1)) b:=by
 rcases h with⟨e,_⟩|⟨g',o',c,e,h2,h3,h4,f⟩
 ·cases e
 ·cases e
  by_cases d:b=[]
  ·subst d
   exact Or.inl ⟨U,_,_,U⟩
  ·have l:0<b.length:=by
    cases b with
    | nil=>exact absurd U d
    | cons=>simp
   have i:b.length+1<=a:=h2;rw[G (by omega)];refine Or.inr ⟨g,o+3,a-1,U,by omega,h3,h4,λj y k=>?_⟩;have:=f (j+1) y k;rw[show o+3+3*j=o+3*(j+1) by omega];exact this
theorem Lk.press{M:Mach}{n:Int}{l:List Wt}(hF:Fb F N)(hI:BI F N w ⟨M,n,l⟩)(hc:CB F N c vco vln vsm w)(L:bE F.B w vco l0)(R:∀ x∈l0,x.ok):Calls prog 58 #[pt c 0] w λe w'=>e=.returned (.tuple #[]) /\ ∃ vco',XP F N c vln vsm w ⟨M,n,l⟩ ⟨M.pressed l0,n,l⟩ vco' (M.coming l0) w':=by
 have E:=hid hF;have H0:Hid (XP F N c vln vsm w ⟨M,n,l⟩ ⟨M,n,l⟩ vco l0 w):=⟨(NM.refl hF hI (J w)).km,hc,L⟩
 obtain⟨s0,hs0⟩:∃ s0:Bst,s0=⟨M,n,l⟩:=⟨_,U⟩
 have HOK0:=hid R;clear hF hI hc L R;go_enter func58,ntmps58;go_wp2;go_loopw [] (λwr=>∃(a:Mach) (l1:List Inp) (v1:Value),XP F N c vln vsm w ⟨M,n,l⟩ ⟨a,n,l⟩ v1 l1 wr/\a.pressed l1=M.pressed l0/\a.coming l1=M.coming l0 /\ ∀ x∈l1,x.ok) (λwr=>left c wr)
 case atStart=>exact⟨M,l0,vco,H0.out,U,U,HOK0.out⟩
 case round =>
  clear H0;obtain⟨a,l1,v1,hX,hp,hcm,R⟩:=hrel;have HX0:=hid hX;have HPE:=hid hp;have HCE:=hid hcm;have HOKS:=hid R;obtain⟨vB,hB⟩:=hX.km.i.bd;have k0:=hX.cb.bx.at 0 _ U;have k1:=hX.cb.bx.at 1 v1 U;have kz:=hX.cb.z;have kf:=hX.cb.bx.f 1;have m72:=hB.at 72 (.int .i64 a.clock) U;have mz:=hB.bx.z;have L:=hX.co;clear hX hp hcm R hB;cases l1 with
  | nil =>
   obtain⟨a1,q1,e1⟩:=L.len;clear L;subst e1;go_wp2;go_quiet (fail)
   go_wp2;go_end0;exact⟨U,_,by have h:=HX0.out.kept E.out (Bl.drewN (J wr) nq);rw[<- HPE.out,<- HCE.out];exact h⟩
  | cons x r =>
   rcases L with⟨e,_⟩|⟨g,o,t,rfl,hcap,hgB,hgz,P⟩
   ·cases e
   ·obtain⟨y0,y1,y2⟩:=P 0 x U
    have x0:wr.cell? ⟨g,o,none⟩=some (.int .i64 x.c):=y0;have x1:wr.cell? ⟨g,o+1,none⟩=some (.int .i64 x.p):=y1;have x2:wr.cell? ⟨g,o+2,none⟩=some (.int .u8 x.d):=y2;clear y0 y1 y2;have HCS:=hid P;have HGB:=hid hgB;have HCAP:=hid hcap;have hlen:((x::r).length:Int)=(r.length:Int)+1:=by simp
    have hlen0:(0:Int)<(r.length:Int)+1:=by omega
    clear P hgB;by_cases hle:x.c<=a.clock
    ·have hx:=HOKS.out x (bl ..)
     have HOK:=hid hx;clear hx;have H:=hid hle;go_wp2;go_quiet (fail)
     go_upto_region 1 with fail
     refine Pl.cutW (XP F N c vln vsm w ⟨M,n,l⟩ ⟨a,n,l⟩ (.slice (some ⟨g,o,none⟩) (x::r).length t) (x::r)) (HX0.out.kept E.out (Bl.drewN (J wr) nq)) ?_;intro Y hY;have HLF:Hid (left c wr=r.length+1):=hid (zl1 k1);clear x0 x1 x2 k0 k1 kz kf m72 mz hgz hle HX0;have HY0:=hid hY;have k1:=hY.cb.bx.at 1 (.slice (some ⟨g,o,none⟩) (r.length+1) t) U;have k0:=hY.cb.bx.at 0 _ U;have kz:=hY.cb.z;rcases hY.co with⟨e,_⟩|⟨g',o',cap',e,hcap',hgB,hgz,P⟩
     ·cases e
     ·cases e
      obtain⟨y0,y1,y2⟩:=P 0 x U;have x0:Y.cell? ⟨g,o,none⟩=some (.int .i64 x.c):=y0;have x1:Y.cell? ⟨g,o+1,none⟩=some (.int .i64 x.p):=y1;have x2:Y.cell? ⟨g,o+2,none⟩=some (.int .u8 x.d):=y2;clear y0 y1 y2 hY;go_upto_region 2 with fail
      refine Pl.cutW (XQ F N c vln vsm w ⟨M,n,l⟩ ⟨a,n,l⟩ (.slice (some ⟨g,o,none⟩) (x::r).length t) (x::r) Y.heap.size x) ⟨HY0.out.kept E.out (stA (J Y) _),Bx.new Y [.int .i64 x.c,.int .i64 x.p,.int .u8 x.d] _ U⟩ ?_;intro aa hU;have HX:=hid (hU.kept' E.out (J aa).drew);clear k0 k1 kz x0 x1 x2 hgB hgz P hcap' HY0;rcases HOK.out.p with hp|hp
      ·have HP:=hid hp
       have b:=(hU.kept' E.out (J aa).drew).q0 hp;clear hU hp;refine mI (S:=λw'=>w'.cell? ⟨c,0,none⟩=some (pt F.g 0)/\w'.cell? ⟨Y.heap.size,1,none⟩=some (.int .i64 0)/\w'.cell? ⟨Y.heap.size,2,none⟩=some (.int .u8 x.d)/\w'.rangeAt F.g 35 [.int .u8 a.p0.d,.bool a.p0.l,.int .u8 a.p0.s]) (st:=22) (by kernel_rfl) ?_;refine bI 0 (λ_=>b) ?_;refine bI 1 (λ_=>b) ?_;refine bI 2 (λ_=>b) ?_;refine bI 4 (λ_=>b) ?_;refine bI 6 (λ_=>b) ?_;refine bI 7 (λ_=>b) ?_;refine bI 8 (λ_=>b) ?_;refine bI 10 (λ_=>b) ?_;refine bI 16 (λ_=>b) ?_;refine j1 [] 3 (λ_ j=>j.1) b ?_;refine j1 [] 5 (λ_ j=>j.2.1) b ?_;refine j1 [] 9 (λ_ j=>j.1) b ?_;refine j1 [] 11 (λ_ j=>j.2.1) b ?_;refine j1 [] 17 (λ_ j=>j.2.2.1) b ?_;refine bI 12 (λ_=>b) ?_;refine bI 13 (λ_=>b) ?_;refine bI 14 (λ_=>b) ?_;refine bI 19 (λ_=>b) ?_;refine bI 20 (λ_=>b) ?_;refine nV [] 15 (.agg ([.int .u8 a.p0.d,.bool a.p0.l,.int .u8 a.p0.s]).toArray) U (λw' j=>kt 28 _ U F.g 35 U ([.int .u8 a.p0.d,.bool a.p0.l,.int .u8 a.p0.s]) _ j.2.2.2 underlying28 U pO) b ?_
       refine fP 18 (λK T=>?_);go_simp;go_at_call 111
       refine(zjw _ _ _ _ _).mono ?_;rintro e w2 ⟨rfl,W⟩;have k:=hid (HX.out.kept' E.out W);clear W;try go_wp2_with fail
       refine gL T (λ_=>k.out.q0 HP.out) ?_;clear T K;clear b;have b:=k.out.q0 HP.out;refine bI 21 (λ_=>b) ?_;obtain⟨v2,X⟩:=k.out.km.i.bd;have q:=hid X;clear X;refine fP 22 (λK T=>?_);refine lW U 28 _ _ U F.g 35 _ U U (Bx.there q.out.bx 35 3 (by rw[Fx.len];omega)) pO (ziF (a.p0.press x.d)) ?_;refine T.out _ _ (λh=>by simp at h) ?_;clear T K;refine lL (by kernel_rfl) ?_ _;have I:a.press x={ a with p0:=a.p0.press x.d }:=Q HP.out;refine Pl.cutE (XP F N c vln vsm w ⟨M,n,l⟩ ⟨a.press x,n,l⟩ (.slice (some ⟨g,o,none⟩) (x::r).length t) (x::r)) ?_ ?_
       ·have hx:NM F N w2 ⟨a,n,l⟩ ⟨a.press x,n,l⟩ (w2.setCells F.g 35 [.int .u8 x.d,.bool a.p0.l,.int .u8 (et a.p0.l x.d a.p0.s)]):=NM.of (s':=⟨a.press x,n,l⟩) E.out k.out.km.i k.out.km.i.n (v:=v2) (by rw[I];exact q.out.puts (M':={ a with p0:=a.p0.press x.d }) (tk':=⟨n,l,v2⟩) 35 [.int .u8 x.d,.bool a.p0.l,.int .u8 (et a.p0.l x.d a.p0.s)] (by simp) U ⟨U,U,U,U,U⟩ (I ▸ zef q.out.fit HOK.out)) (Bt.sets q.out.nd _ 35 _ (Bt.refl F w2))
        exact⟨k.out.km.trans hx.km,hx.cb k.out.cb,k.out.co.kept hx.m.below⟩
       clear I;intro V Z;have k1:=Z.cb.bx.at 1 (.slice (some ⟨g,o,none⟩) (r.length+1) t) U;have kz:=Z.cb.z;have kf:=Z.cb.bx.f 1;have u:=hid Z;have hcp:r.length+1<=t:=HCAP.out;clear Z HX k q b;go_wp2;refine⟨⟨a.press x,r,_,⟨u.out.km.set E.out (u.out.cb.big u.out.km.i E.out) u.out.cb 1 _,u.out.cb.put1 _,?_⟩,by rw[<- HPE.out,zeX H.out],by rw[<- HCE.out,zfK H.out],λy hy=>HOKS.out y (bq _ hy)⟩,?_⟩
       ·exact((u.out.co.tail).kept (eQ (aW _ _) (u.out.cb.big u.out.km.i E.out) _))
       ·rw[HLF.out,zl1 (Bx.at (u.out.cb.put1 _).bx 1 _ U)]
        omega
      ·have HP:=hid hp
       have b:=(hU.kept' E.out (J aa).drew).q1 hp;clear hU hp;refine mI (S:=λw'=>w'.cell? ⟨c,0,none⟩=some (pt F.g 0)/\w'.cell? ⟨Y.heap.size,1,none⟩=some (.int .i64 1)/\w'.cell? ⟨Y.heap.size,2,none⟩=some (.int .u8 x.d)/\w'.rangeAt F.g 38 [.int .u8 a.p1.d,.bool a.p1.l,.int .u8 a.p1.s]) (st:=22) (by kernel_rfl) ?_;refine bI 0 (λ_=>b) ?_;refine bI 1 (λ_=>b) ?_;refine bI 2 (λ_=>b) ?_;refine bI 4 (λ_=>b) ?_;refine bI 6 (λ_=>b) ?_;refine bI 7 (λ_=>b) ?_;refine bI 8 (λ_=>b) ?_;refine bI 10 (λ_=>b) ?_;refine bI 16 (λ_=>b) ?_;refine j1 [] 3 (λ_ j=>j.1) b ?_;refine j1 [] 5 (λ_ j=>j.2.1) b ?_;refine j1 [] 9 (λ_ j=>j.1) b ?_;refine j1 [] 11 (λ_ j=>j.2.1) b ?_;refine j1 [] 17 (λ_ j=>j.2.2.1) b ?_;refine bI 12 (λ_=>b) ?_;refine bI 13 (λ_=>b) ?_;refine bI 14 (λ_=>b) ?_;refine bI 19 (λ_=>b) ?_;refine bI 20 (λ_=>b) ?_;refine nV [] 15 (.agg ([.int .u8 a.p1.d,.bool a.p1.l,.int .u8 a.p1.s]).toArray) U (λw' j=>kt 28 _ U F.g 38 U ([.int .u8 a.p1.d,.bool a.p1.l,.int .u8 a.p1.s]) _ j.2.2.2 underlying28 U pO) b ?_
       refine fP 18 (λK T=>?_);go_simp;go_at_call 111
       refine(zjw _ _ _ _ _).mono ?_;rintro e w2 ⟨rfl,W⟩;have k:=hid (HX.out.kept' E.out W);clear W;try go_wp2_with fail
       refine gL T (λ_=>k.out.q1 HP.out) ?_;clear T K;clear b;have b:=k.out.q1 HP.out;refine bI 21 (λ_=>b) ?_;obtain⟨v2,X⟩:=k.out.km.i.bd;have q:=hid X;clear X;refine fP 22 (λK T=>?_);refine lW U 28 _ _ U F.g 38 _ U U (Bx.there q.out.bx 38 3 (by rw[Fx.len];omega)) pO (ziF (a.p1.press x.d)) ?_;refine T.out _ _ (λh=>by simp at h) ?_;clear T K;refine lL (by kernel_rfl) ?_ _;have I:a.press x={ a with p1:=a.p1.press x.d }:=G (by rw[HP.out];decide);refine Pl.cutE (XP F N c vln vsm w ⟨M,n,l⟩ ⟨a.press x,n,l⟩ (.slice (some ⟨g,o,none⟩) (x::r).length t) (x::r)) ?_ ?_
       ·have hx:NM F N w2 ⟨a,n,l⟩ ⟨a.press x,n,l⟩ (w2.setCells F.g 38 [.int .u8 x.d,.bool a.p1.l,.int .u8 (et a.p1.l x.d a.p1.s)]):=NM.of (s':=⟨a.press x,n,l⟩) E.out k.out.km.i k.out.km.i.n (v:=v2) (by rw[I];exact q.out.puts (M':={ a with p1:=a.p1.press x.d }) (tk':=⟨n,l,v2⟩) 38 [.int .u8 x.d,.bool a.p1.l,.int .u8 (et a.p1.l x.d a.p1.s)] (by simp) U ⟨U,U,U,U,U⟩ (I ▸ zef q.out.fit HOK.out)) (Bt.sets q.out.nd _ 38 _ (Bt.refl F w2))
        exact⟨k.out.km.trans hx.km,hx.cb k.out.cb,k.out.co.kept hx.m.below⟩
       clear I;intro V Z;have k1:=Z.cb.bx.at 1 (.slice (some ⟨g,o,none⟩) (r.length+1) t) U;have kz:=Z.cb.z;have kf:=Z.cb.bx.f 1;have u:=hid Z;have hcp:r.length+1<=t:=HCAP.out;clear Z HX k q b;go_wp2;refine⟨⟨a.press x,r,_,⟨u.out.km.set E.out (u.out.cb.big u.out.km.i E.out) u.out.cb 1 _,u.out.cb.put1 _,?_⟩,by rw[<- HPE.out,zeX H.out],by rw[<- HCE.out,zfK H.out],λy hy=>HOKS.out y (bq _ hy)⟩,?_⟩
       ·exact((u.out.co.tail).kept (eQ (aW _ _) (u.out.cb.big u.out.km.i E.out) _))
       ·rw[HLF.out,zl1 (Bx.at (u.out.cb.put1 _).bx 1 _ U)]
        omega
    ·have H:=hid hle
     have hle':a.clock<x.c:=by omega
     clear hle;go_wp2;go_quiet (fail)
     go_wp2;go_end0;exact⟨U,_,by have h:=HX0.out.kept E.out (Bl.drewN (J wr) nq);rw[<- HPE.out,<- HCE.out,zjZ (lC.2 H.out),zl0 (lC.2 H.out)];exact h⟩
end
instance : Inhabited Inp := ⟨⟨0, 0, 0⟩⟩
structure Inp.fits (x : Inp) : Prop where
 c:-9223372036854775808<=x.c/\x.c<=9223372036854775807
 p:-9223372036854775808<=x.p/\x.p<=9223372036854775807
 d:0<=x.d/\x.d<=255
theorem zwI{H:Type}{enc:TypeId × Value->H}{w:World}{base:Nat}{spare:Nat->Bool}{held:Bool}{n:Nat}{x:DataW H × List MemPlace}{s:List Value}(h:DataW.trod enc prog w base spare held n 113 s=some x)(j:s.length=3):∃ p:Inp,s=[.int .i64 p.c,.int .i64 p.p,.int .u8 p.d]/\p.fits:=by
 have k:Tryz.prog.cellsOf 5=1:=by kernel_rfl
 have i:Tryz.prog.cellsOf 3=1:=by kernel_rfl
 obtain⟨c0,c1,c2,rfl⟩:=qS j;obtain⟨xs,m,_,_,_,b,a⟩:=cG underlying113 h;have l:xs.length=3:=b;obtain⟨a0,rfl,e⟩:=ki (ty:=3) (o:=0) (v:=c0) (a 0 _ U) (by omega) i underlying3 U;obtain⟨a1,rfl,f⟩:=ki (ty:=3) (o:=1) (v:=c1) (a 1 _ U) (by omega) i underlying3 U;obtain⟨a2,rfl,g⟩:=ki (ty:=5) (o:=2) (v:=c2) (a 2 _ U) (by omega) k underlying5 U;exact⟨⟨a0,a1,a2⟩,U,jk e,jk f,io g⟩
theorem zdE{H:Type}{enc:TypeId × Value->H}{W:World}{base:Nat}{v:Value}{d:DataW H}{p:List MemPlace}(R:Value.okWide prog W .any base 42 v)(T:DataW.Trod enc prog W 0 (λ_=>true) true 42 v d p):∃ l:List Inp,bE W.heap.size W v l/\l.length<=maxLen /\ ∀ x∈l,x.fits:=by
 obtain⟨a,len,s,rfl⟩:=kC underlying42 R;obtain⟨fuel,V⟩:=T;have c3:Tryz.prog.cellsOf 113=3:=by kernel_rfl
 rcases Go.Deep.open_slice underlying42 V with⟨hc,_⟩|⟨k,f,h,m,n,ac,Pp,hc,_,X,hm,E,_,F⟩
 ·have e:(Value.slice a len s)=.slice none 0 0:=by simpa [Value.cells] using hc
  rw[e];exact⟨[],Or.inl ⟨U,none,0,U⟩,by simp,by simp⟩
 ·have e:(Value.slice a len s)=.slice (some k) f h:=by simpa [Value.cells] using hc
  rw[e];simp only[dL] at E;by_cases Y:f=0
  ·subst Y
   exact⟨[],Or.inl ⟨U,some k,h,U⟩,by simp,by simp⟩
  ·have t:∀ i,i<f->∃ q:Inp,(W.cell? (k.add (i*3))=some (.int .i64 q.c)/\W.cell? (k.add (i*3+1))=some (.int .i64 q.p)/\W.cell? (k.add (i*3+2))=some (.int .u8 q.d))/\q.fits:=λi hi=>by
    obtain⟨Z,h1,h2⟩:=F i (by omega);rw[c3] at h1;obtain⟨_,u,b⟩:=World.cells?_some h1;obtain⟨q,rfl,r⟩:=zwI h2 u;have w:=b 0 (by omega);have e1:=b 1 (by omega);have e2:=b 2 (by omega);rw[Go.Deep.add_add] at w e1 e2;exact⟨q,⟨by simpa using w,by simpa using e1,by simpa using e2⟩,r⟩
   obtain⟨q,r⟩:=Go.Deep.choose_lt t;have hs:=Pl.spot ((r 0 (by omega)).1.1);obtain⟨g,o,N⟩:=k;have I:N=none:=by
    cases N with
    | none=>rfl
    | some x=>simp[Addr.add] at hs
   subst I;have y:g<W.heap.size:=aG W _ ((r 0 (by omega)).1.1);refine⟨(List.range f).map q,Or.inr ⟨g,o,h,by rw[ba,gq],by rw[ba,gq];exact X,y,y,λj x P=>?_⟩,by rw[ba,gq];omega,λx F=>?_⟩
   ·rw[aX] at P
    obtain⟨i,L,M⟩:=eF.1 P;obtain⟨z,B⟩:=aA.1 L;rw[gq] at z;rw[List.getElem_range] at B;subst B;subst M;obtain⟨⟨w,e1,e2⟩,_⟩:=r j z;rw[addr_add] at w e1 e2;rw[eu 3 j];exact⟨w,e1,e2⟩
   ·obtain⟨i,hi,rfl⟩:=ex.1 F
    exact(r i (du.1 hi)).2
end Go.Proofs.YthghjlinhokimaaGreatDoor
