/-
  Parts of a proof, joined.
-/
import Derived.Test.YthghjlinhokimaaGreatDoorZbA
import Derived.Test.YthghjlinhokimaaGreatDoorZbWatchBreak02
import Derived.Test.YthghjlinhokimaaGreatDoorZb43
set_option linter.all false
set_option maxRecDepth 100000
set_option maxHeartbeats 6400000
open Option renaming none->G,some->A
open Go renaming World->u,Value->π,Calls->Δ,TypeId->aJ,loadVar->bC,Oper->cG,wpList->dg,Operand->dk,maxLen->dI,Ending->jf
open Bool renaming false->ξ,true->Γ
open Go.Proofs.Tryz renaming prog->ω
open Go.Act renaming put->ag
open Or renaming inl->aj,inr->ao
open Go.Result renaming andThen->aE
open Go.RowKit renaming Hid->bG
open Go.Value renaming slice->κ,int->J,bool->ν,tuple->Ψ,string->Ω,agg->ac
open Go.Sem renaming run->bL
open Go.Region renaming wanted->b9
open Go.Instr renaming build->dw,buildSlice->gx
open Go.Builtin renaming append_->fe,lenOf->jo
open Go.IntKind renaming i64->Q,u16->Y
open Go.Ending renaming returned->μ
open Go.Obj renaming cells->χ
namespace Go.Proofs.YthghjlinhokimaaGreatDoor
open Go.ChangeShapes Go.WideShapes Go.ChangeAt Go.RowKit Go.Proofs.Tryz
section
variable {w1 ι Y' : u} {X : Mach} {S' : Sl} {L : List π}
end
theorem xx(M:Mach)(S:Sl)(n:Int)(w:u):Δ ω 15 #[ac (υ M S).toArray,J Q n] w λe w'=>e=μ (ν (decide (19000<M.b.f)))/\Below w.heap.size w w':=by
 have hB:=Bx.new w (υ M S) 41 (b:=w.heap.size) D;have a:=hB.at 64 (J Q M.b.f) D;clear hB;go_enter func15,ntmps15;go_wp2;go_ret;exact⟨D,stA (aR w) _⟩
section
variable {w w1 : u} {v : π} {n z B : Nat} {xs : List π} {t : aJ}
theorem vI{d:aJ}(e:Tryz.prog.underlying d=A (.slice t))(i:TypeInfo)(hi:Tryz.prog.info? t=A i)(ty:aJ)(b:w.ownsRow B t z v n xs)(a:Option Addr)(c:Nat):(fe #[d,d] ty #[v,κ a 0 c]).run ω w=.ok v w:=by
 have h:=cQ (P:=ω) e;have k:(Builtin.firstCells i.size 0 (κ a 0 c)).run ω w=.ok #[] w:=by
  cases a with
  | none=>exact kJ w i.size 0 0 c
  | some a=>exact kK w i.size 0 a 0 c [] (by simp) (λj v l=>by simp at l)
 rcases b.2 with⟨rfl,rfl⟩|⟨g,m,o,rfl,_,_,f,_⟩
 ·simp[fe,h,sizeOf,typeInfo,hi,jo,k]
 ·simp[fe,h,sizeOf,typeInfo,hi,jo,k,f,storeCells]
end
theorem zfV{M:Mach}{l:List Inp}{n:Int}(h1:M.chk=0)(h2:chkIn l M.clock=0)(h:0<=n/\n<=20000/\M.clock+n<=200000):bS M l n=0:=by
 unfold bS;rw[am h1,am h2,am h]
/-! ### inputs that are right -/
theorem zgA:∀(l:List Inp) (a:Int),chkL l a=0->sn l /\ ∀ x∈l,x.c<=400000
 | [],a,_=>⟨List.Pairwise.nil,λx b=>by cases b⟩
 | y::l,a,h=>by
  unfold chkL at h;split at h
  ·cases h
  ·rename_i h1
   split at h
   ·obtain⟨d,i2⟩:=zgA l y.c h
    exact⟨fC.2 ⟨λx b=>(wD l y.c h x b).2,d⟩,λx b=>by
     rcases bp.1 b with rfl|b
     ·omega
     ·exact i2 x b⟩
   ·cases h
theorem zuN:∀(l:List Inp) (a:Int),sn l->(∀ x∈l,a<=x.c/\x.c<=400000/\(x.p=0 \/ x.p=1))->chkL l a=0
 | [],a,_,_=>rfl
 | y::l,a,hp,h=>by
  obtain⟨h1,h2,h3⟩:=h y bO;have b:=fC.1 hp;rw[chk0 (by omega) h3];exact zuN l y.c b.2 (λx d=>⟨b.1 x d,(h x (bV _ d)).2⟩)
theorem zxf{l:List Inp}{a c:Int}(h:chkIn l a=0)(hc:a<=c):chkIn (l.filter (λx=>decide (c<=x.c))) c=0:=by
 obtain⟨h1,h2⟩:=wE h;obtain⟨h3,h4⟩:=zgA l a h2;unfold chkIn;rw[ae (by have:=iL (λx:Inp=>decide (c<=x.c)) l;omega)];refine zuN _ _ (nG _ h3) (λx e=>?_);obtain⟨b,d⟩:=ju.1 e;exact⟨by simpa using d,h4 x b,(wD l a h2 x b).1⟩
/-! ### what lies where -/
/-! ### a frame over one letter -/
def Mach.aft(M:Mach)(l:List Inp)(j:Nat):Mach:=(Cs.clocks ⟨⟨M,0,[]⟩,l,[],[]⟩ j).s.M
def wnx(M:Mach)(l:List Inp)(n j:Nat):Nat:=(min (M.aft l j).next (M.clock+n)-M.clock).toNat
inductive Way (M : Mach) (l : List Inp) (n : Nat) : List Nat -> Nat -> Prop
 | nil:Way M l n [] 0
 | cons {js:List Nat} {j:Nat}:Way M l n js j->j<n->Way M l n (js++[j]) (wnx M l n j)
structure InR (M : Mach) (l : List Inp) : Prop where
 p:sn l
 ge:∀ x∈l,M.clock<=x.c
 ck:chkIn l M.clock=0
 dn:∀ x∈l,0<=x.d/\x.d<=255
theorem InR.of{M:Mach}{l:List Inp}(h:chkIn l M.clock=0)(a:∀ x∈l,0<=x.d/\x.d<=255):InR M l:=⟨(zgA l _ (wE h).2).1,λx b=>(wD l _ (wE h).2 x b).2,h,a⟩
section
variable {M : Mach} {l : List Inp} {n j : Nat} {js : List Nat}
theorem wG(h:InR M l)(j:Nat):(M.aft l j).clock=M.clock+j:=(zcz ⟨⟨M,0,[]⟩,l,[],[]⟩ l rfl h.p h.ge j).1
theorem zva(h:InR M l)(a b:Nat):M.aft l (a+b)=(M.aft l a).aft (comes (M.clock+a) l) b:=by
 rw[zds _ _ h.p];exact(zuH M l h.p h.ge a b).s.M
theorem InR.aft(h:InR M l)(j:Nat):InR (M.aft l j) (comes (M.clock+j) l):=by
 rw[zds _ _ h.p];have hc:=wG h j;exact InR.of (by rw[hc];exact zxf h.ck (by omega)) (λx a=>h.dn x (ju.1 a).1)
theorem zvb(X:Mach):X.clock+1<=X.next:=by unfold Mach.next;omega
theorem zqx(h:InR M l)(a:j<n):j<wnx M l n j/\wnx M l n j<=n:=by
 have:=wG h j;have:=zvb (M.aft l j);unfold wnx;omega
theorem zvc(h:InR M l)(a:j<n):min (M.aft l j).next (M.clock+n)-(M.clock+j)=((wnx M l n j-j:Nat):Int):=by
 have:=wG h j;have:=zvb (M.aft l j);unfold wnx;omega
theorem Way.le(h:InR M l)(w:Way M l n js j):j<=n/\js.length<=j:=by
 induction w with
 | nil=>exact⟨bh _,ψ _⟩
 | @cons js j w a b =>
  have:=zqx h a;rw[az];exact⟨this.2,by simp;omega⟩
theorem zvd(e:M.fit)(c:M.b.f<=19000)(g:j<=500):(M.aft l j).b.f<=20000:=by
 have hb:=e.b;have d:=zR ⟨⟨M,0,[]⟩,l,[],[]⟩ ⟨hb.l0,hb.l1,hb.a0,hb.a1,hb.f0,by show M.b.f<=20000;omega⟩ c j (by omega);show (Cs.clocks ⟨⟨M,0,[]⟩,l,[],[]⟩ j).s.M.b.f<=20000;rw[d.f];show lS M.b.l M.b.a M.b.f j<=20000;have:=hb.l0;have:=hb.l1;have:=hb.a0;have:=hb.a1;unfold lS;omega
end
def jz(M:Mach)(l:List Inp)(n:Int):Int:=if bS M l 0=0 then (if 0<=n/\n<=500/\M.clock+n<=200000 then 0 else 3) else bS M l 0
structure Lw (q : Nat) (g : Option Nat) (w w' : u) : Prop where
 os:w'.os=w.os
 tape:w'.tape=w.tape
 output:w'.output=w.output
 size:w.heap.size<=w'.heap.size
 block:∀ k,k<w.heap.size->k≠q->g≠A k->w'.heap[k]?=w.heap[k]?
theorem Lw.below{q B:Nat}{g:Option Nat}{w w':u}(h:Lw q g w w')(hB:B<=w.heap.size)(b:B<=q)(a:∀ k,g=A k->B<=k):Below B w w' :=
 ⟨h.os,h.tape,h.output,h.size,λk c=>h.block k (by omega) (by omega) (λe=>by have:=a k e;omega)⟩
theorem Lw.of{q:Nat}{g:Option Nat}{w w':u}(h:Below w.heap.size w w'):Lw q g w w':=⟨h.os,h.tape,h.output,h.size,λk a _ _=>h.block k a⟩
structure Jw (q : Nat) (δ : List Dd -> Option Nat -> u -> Prop) : Prop where
 same:∀ acc g w w',δ acc g w->w.heap.size<=w'.heap.size->w'.heap[q]?=w.heap[q]?->(∀ k,g=A k->w'.heap[k]?=w.heap[k]?)->δ acc g w'
 q:∀ acc g w,δ acc g w->q<w.heap.size
 g:∀ acc g w,δ acc g w->∀ k,g=A k->k<w.heap.size
theorem cf.same{W d:u}{S:Sl}{M:Mach}(h:cf W S M)(k:W.heap.size<=d.heap.size)(hb:∀ j,j<5->∀ a m c,S.get j=κ (A a) m c->0<m->d.heap[a.block]?=W.heap[a.block]?):cf d S M:=λj e=>by
 rcases h j e with l|⟨g,o',b,e1,e2,e3,e4⟩
 ·exact aj l
 ·by_cases n:0<(M.byt j).length
  ·exact ao ⟨g,o',b,e1,e2,Θ e3 k,λi c hi=>(Φ (show d.heap[g]?=W.heap[g]? from hb j e _ _ _ e1 n)).trans (e4 i c hi)⟩
  ·have f:M.byt j=[]:=fM (by omega)
   exact aj ⟨_,b,by rw[e1,f];rfl,f⟩
theorem cf.lt{W:u}{S:Sl}{M:Mach}(h:cf W S M):∀ j,j<5->∀ a m c,S.get j=κ (A a) m c->0<m->a.block<W.heap.size:=λj b a m c e i=>by
 rcases h j b with⟨_,_,d,_⟩|⟨g,o',f,e1,e2,e3,e4⟩
 ·rw[d] at e;cases e;omega
 ·rw[e1] at e;cases e;exact e3
def sR(g:Option Nat)(S:Sl):Prop:=∀ j,j<5->∀ a m c,S.get j=κ (A a) m c->0<m->g≠A a.block
structure FI (q : Nat) (w : u) (δ : List Dd -> Option Nat -> u -> Prop) (X : Mach) (SX : Sl) (acc : List Dd) (g : Option Nat) (ι : u) : Prop where
 low:Lw q G w ι
 bx:Bx ι w.heap.size (υ X SX)
 rb:Bx ι (w.heap.size+1) (υ aD aP)
 sl:cf ι SX X
 nw:gA (w.heap.size+2) SX
 off:sR g SX
 jj:δ acc g ι
 gb:∀ k,g=A k->w.heap.size+2<=k
structure FR (q : Nat) (w : u) (δ : List Dd -> Option Nat -> u -> Prop) (X : Mach) (SX : Sl) (acc : List Dd) (g : Option Nat) (V : u) : Prop where
 low:Lw q G w V
 rb:Bx V (w.heap.size+1) (υ X SX)
 sl:cf V SX X
 jj:δ acc g V
 nw:gA (w.heap.size+2) SX
theorem Lw.trans{q:Nat}{g:Option Nat}{w ι Y':u}(h:Lw q G w ι)(k:Lw q g ι Y')(b:∀ k,g=A k->w.heap.size<=k):Lw q G w Y' :=
 ⟨k.os.trans h.os,k.tape.trans h.tape,k.output.trans h.output,ax h.size k.size,λi hi a _=>(k.block i (Θ hi h.size) a (λe=>by have:=b i e;omega)).trans (h.block i hi a (by simp))⟩
theorem Lw.below0{q:Nat}{w0 w ι:u}(h:Lw q G w ι)(a:Below w0.heap.size w0 w)(b:w0.heap.size<=q):Below w0.heap.size w0 ι:=a.trans (h.below a.size b (λk e=>by cases e))
theorem Lw.sets{q b o:Nat}{g:Option Nat}{w ι:u}(h:Lw q g w ι)(hb:w.heap.size<=b)(vs:List π):Lw q g w (ι.setCells b o vs):=by
 have h1:Below b ι (ι.setCells b o vs):=ni (bq _ _) (ψ _) vs o;exact⟨h1.os.trans h.os,h1.tape.trans h.tape,h1.output.trans h.output,ax h.size h1.size,λk a c d=>(h1.block k (by omega)).trans (h.block k a c d)⟩
theorem Aa(V:u):cf V aP aD:=λj a=>by
 have hc:j=0 \/ j=1 \/ j=2 \/ j=3 \/ j=4:=by omega
 rcases hc with rfl|rfl|rfl|rfl|rfl <;> exact aj ⟨G,0,D,D⟩
section
variable {w0 w ι Y' : u} {q : Nat} {δ : List Dd -> Option Nat -> u -> Prop} {X : Mach} {SX : Sl} {acc acc' : List Dd} {g g' : Option Nat}
theorem FI.kept(a:Jw q δ)(h:FI q w δ X SX acc g ι)(hb:Below ι.heap.size ι Y'):FI q w δ X SX acc g Y' :=
 ⟨h.low.trans (Lw.of (g:=G) hb) (λk e=>by cases e),h.bx.kept hb,h.rb.kept hb,h.sl.kept hb,h.nw,h.off,a.same _ _ _ _ h.jj hb.size (hb.block _ (a.q _ _ _ h.jj)) (λk e=>hb.block _ (a.g _ _ _ h.jj k e)),h.gb⟩
theorem FI.look(o:q<w.heap.size)(h:FI q w δ X SX acc g ι)(b:Lw q g ι Y')(d:δ acc' g' Y')(i:g'=g \/ ∃ k,g'=A k/\ι.heap.size<=k):FI q w δ X SX acc' g' Y':=by
 have b0:=h.bx.z;have b1:=h.rb.z;refine⟨h.low.trans b (λk e=>by have:=h.gb k e;omega),h.bx.same b.size (b.block _ b0 (by omega) (λe=>by have:=h.gb _ e;omega)),h.rb.same b.size (b.block _ b1 (by omega) (λe=>by have:=h.gb _ e;omega)),h.sl.same b.size (λj d a m c e f=>b.block _ (h.sl.lt j d a m c e f) (by have:=h.nw j d a m c e;omega) (h.off j d a m c e f)),h.nw,?_,d,?_⟩
 ·rcases i with rfl|⟨k,rfl,l⟩
  ·exact h.off
  ·intro j d a m c e f n
   have:=h.sl.lt j d a m c e f;cases n;omega
 ·rcases i with rfl|⟨k,rfl,l⟩
  ·exact h.gb
  ·intro k' e
   cases e;omega
theorem FI.of{L:List π}{a:Mach}{S':Sl}(f:Jw q δ)(n:q<w.heap.size)(h:Lw q G w ι)(hb:Bx ι w.heap.size L)(b:L.length=75)(i:Bx ι (w.heap.size+1) (υ aD aP))(j:δ acc g ι)(c:∀ k,g=A k->w.heap.size+2<=k)(l:cf ι S' a)(d:gA (w.heap.size+2) S')(m:sR g S'):FI q w δ a S' acc g (ι.setCells w.heap.size 0 (υ a S')):=by
 have h1:=hb.puts 0 (υ a S') (by rw[dG,b];omega);rw[mK _ _ (by rw[dG,b])] at h1;exact⟨h.sets (by omega) _,h1,DW.bb i (by omega),l.off d (by omega) _ _,d,m,f.same _ _ _ _ j (cq (pN _ _ _ _).symm) (ji (by omega) _ _ _) (λk e=>ji (by have:=c k e;omega) _ _ _),c⟩
theorem FI.put{a:Mach}{S':Sl}(b:Jw q δ)(c:q<w.heap.size)(h:FI q w δ X SX acc g ι)(d:cf ι S' a)(e:gA (w.heap.size+2) S')(f:sR g S'):FI q w δ a S' acc g (ι.setCells w.heap.size 0 (υ a S')):=FI.of b c h.low h.bx (dG _ _) h.rb h.jj h.gb d e f
theorem FI.far{b o:Nat}(d:Jw q δ)(r:q<w.heap.size)(h:FI q w δ X SX acc g ι)(hb:w.heap.size+2<=b)(f:∀ j,j<5->∀ a m c,SX.get j=κ (A a) m c->0<m->a.block≠b)(i:g≠A b)(vs:List π):FI q w δ X SX acc g (ι.setCells b o vs) :=
 ⟨h.low.sets (by omega) _,DW.bb h.bx (by omega),DW.bb h.rb (by omega),h.sl.same (cq (pN _ _ _ _).symm) (λj l a m c e n=>ji (f j l a m c e n) _ _ _),h.nw,h.off,d.same _ _ _ _ h.jj (cq (pN _ _ _ _).symm) (ji (by omega) _ _ _) (λk e=>ji (λp=>i (by rw[e,p])) _ _ _),h.gb⟩
theorem FI.ret{a:Mach}{S':Sl}(c:Jw q δ)(f:q<w.heap.size)(h:FI q w δ X SX acc g ι)(d:cf ι S' a)(b:gA (w.heap.size+2) S'):FR q w δ a S' acc g (ι.setCells (w.heap.size+1) 0 (υ a S')):=by
 have h1:=h.rb.puts 0 (υ a S') (by rw[dG,dG];omega);rw[mK _ _ (by rw[dG,dG])] at h1;exact⟨h.low.sets (by omega) _,h1,d.off b (by omega) _ _,c.same _ _ _ _ h.jj (cq (pN _ _ _ _).symm) (ji (by omega) _ _ _) (λk e=>ji (by have:=h.gb k e;omega) _ _ _),b⟩
end
theorem A7(n:Nat):gA n aP:=λj b a m c e=>by
 have hc:j=0 \/ j=1 \/ j=2 \/ j=3 \/ j=4:=by omega
 rcases hc with rfl|rfl|rfl|rfl|rfl <;> cases e
theorem zi1(M:Mach)(S:Sl)(v:π)(l:List Inp)(n:Nat)(w:u)(k:cf w S M)(m:∀ j,j<5->(M.byt j).length<=9223372036854775807)(b:M.ok)(i:br w)(c:bP w.heap.size w v l)(o:∀ x∈l,0<=x.d/\x.d<=255)(y:n<=9223372036854775807):Δ ω 9 #[ac (υ M S).toArray,v,J Q n] w λe w'=>∃(g:Mach) (S':Sl) (a1 a2 a3:Option Addr) (p q r c1 c2 c3:Nat),e=μ (Ψ #[ac (υ g S').toArray,ac #[κ a1 p c1,κ a2 q c2,κ a3 r c3],J Q (bS M l n)])/\cf w' S' g/\gA w.heap.size S'/\Below w.heap.size w w'/\(bS M l n=0->g=M.aft l n/\g.fit):=by
 by_cases a:bS M l n=0
 ·have h1:M.chk=0:=by
   unfold bS at a;split at a
   ·assumption
   ·exact a
  have h2:chkIn l M.clock=0:=by
   unfold bS at a;rw[am h1] at a;split at a
   ·assumption
   ·exact a
  have h3:0<=(n:Int)/\(n:Int)<=20000/\M.clock+n<=200000:=by
   unfold bS at a;rw[am h1,am h2] at a;split at a
   ·assumption
   ·cases a
  have s:=wA b h1;refine(AV M S v l n w k i c o s (zeA h1) h2 ⟨by omega,h3.2.2⟩).mono ?_;rintro e w' ⟨F,N,vln,vsm,vw,rfl,f,hB,_,t,hb⟩;obtain⟨p1,c1,e1⟩:=tZ f.ln;obtain⟨p2,c2,e2⟩:=tZ f.sm;obtain⟨p3,c3,e3⟩:=tZ f.ws;subst e1 e2 e3;exact⟨_,F.S,p1,p2,p3,_,_,_,c1,c2,c3,by rw[a],f.sl,t.mono hB,hb,λ_=>⟨D,f.fit⟩⟩
 ·refine(zfd M S v l n w k m b c ⟨by omega,by omega⟩ a).mono ?_
  rintro e w' ⟨rfl,hb⟩;exact⟨aD,aP,G,G,G,0,0,0,0,0,0,D,Aa _,A7 _,hb,λh=>absurd h a⟩
def vn(M:Mach)(l:List Inp)(n:Int)(b:Mach->Bool)(f:Mach->List Dd)(X:Mach)(t:Bool)(c:Int)(acc:List Dd):Prop :=
 (c≠0/\X=aD/\t=ξ/\(c=jz M l n \/ (jz M l n=0/\19000<M.b.f))) \/
 (c=0/\jz M l n=0/\M.fit/\InR M l /\ ∃(a:List Nat) (j:Nat),Way M l n.toNat a j/\X=M.aft l j/\(∀ i∈a,b (M.aft l i)=ξ) /\
   ((t=ξ/\j=n.toNat/\acc=(a.map (λi=>f (M.aft l i))).flatten) \/ (t=Γ/\j<n.toNat/\b X=Γ/\acc=(a.map (λi=>f (M.aft l i))).flatten++f X)))
def pU(b:Nat)(w:u):Nat:=match w.cell? ⟨b,72,G⟩ with
 | some (.int _ c)=>c.toNat
 | _=>0
theorem zyh{b:Nat}{ι:u}{X:Mach}{SX:Sl}(h:Bx ι b (υ X SX)):pU b ι=X.clock.toNat:=by
 unfold pU;rw[h.at 72 (J Q X.clock) D]
theorem zqy{f:Mach->List Dd}(b:∀ X,(f X).length<=2)(K:Nat->Mach):∀ a:List Nat,((a.map (λi=>f (K i))).flatten).length<=2*a.length
 | []=>by simp
 | j::a=>by
  have:=zqy b K a;have:=b (K j);simp only[cI,jT,az,cy];omega
theorem Wc.long{M X:Mach}{l:List Inp}{N j k:Nat}(m:M.fit)(a:InR M l)(o:N<=500)(hc:0<=M.clock/\M.clock+N<=200000)(n:j<N)(c:X=M.aft l j)(d:X.fit)(p:k=wnx M l N j-j)(h:bS X (comes X.clock l) k≠0):19000<M.b.f:=by
 refine qb.1 (λe=>h ?_);have hb:=zqx a n;have g:=wG a j;have h2:=(a.aft j).ck;rw[<- c] at g;rw[<- c,<- g] at h2;have i:X.b.f<=20000:=by rw[c];exact zvd m e (by omega)
 exact zfV (zjP d i) h2 ⟨by omega,by omega,by rw[g];omega⟩
inductive FPost (M : Mach) (l : List Inp) (n : Int) (q : Nat) (δ : List Dd -> Option Nat -> u -> Prop) (b : Mach -> Bool) (f : Mach -> List Dd) (w : u) (e : jf) (w' : u) : Prop
 | mk (X:Mach) (SX:Sl) (t:Bool) (er:Int) (acc:List Dd) (g:Option Nat) (h:e=μ (Ψ #[ac (υ X SX).toArray,ν t,J Q er])) (h2:vn M l n b f X t er acc) (h3:δ acc g w') (h4:cf w' SX X) (h5:Lw q G w w') (h6:gA w.heap.size SX)
theorem Wc.follow(M:Mach)(S:Sl)(v:π)(l:List Inp)(n:Int)(fn:Nat)(cv:π)(q:Nat)(δ:List Dd->Option Nat->u->Prop)(b:Mach->Bool)(f:Mach->List Dd)(w0 w:u)
 (hcf:∀(a:Array π) (w:u),(callFunc fn a).run ω w=.ok (.enter fn a) w)
 (hlook:∀ acc g X SX ι,δ acc g ι->Below w0.heap.size w0 ι->cf ι SX X->X.fit->acc.length<=1000->Δ ω fn #[ac (υ X SX).toArray,cv] ι λe w'=>e=μ (ν (b X)) /\ ∃ g',δ (acc++f X) g' w'/\(g'=g \/ ∃ k,g'=A k/\ι.heap.size<=k)/\Lw q g ι w')
 (hf2:∀ X,(f X).length<=2) (hJ:Jw q δ) (hq:w0.heap.size<=q/\q<w.heap.size) (hj0:δ [] G w) (T:Below w0.heap.size w0 w)
 (hs:cf w0 S M) (hz:∀ j,j<5->(M.byt j).length<=9223372036854775807) (hok:M.ok) (hsh:br w0) (hin:bP w0.heap.size w0 v l) (hdn:∀ x∈l,0<=x.d/\x.d<=255) (hn:-9223372036854775808<=n/\n<=9223372036854775807) :
 Δ ω 50 #[ac (υ M S).toArray,v,J Q n,.func (.func fn) #[] #[cv]] w (FPost M l n q δ b f w):=by
 obtain⟨n1,n2⟩:=hn;have hW1:Below w.heap.size w ((w.alloc (χ (υ M S).toArray 41)).alloc (χ (υ aD aP).toArray 41)):=stA (stA (aR w) _) _;have hB0:=bw T hW1;have HL1:=hid (Lw.of (q:=q) (g:=G) hW1);have HB4:=hid ((Bx.new w (υ M S) 41 (b:=w.heap.size) D).over (χ (υ aD aP).toArray 41));have HB8:=hid (Bx.new (w.alloc (χ (υ M S).toArray 41)) (υ aD aP) 41 (b:=w.heap.size+1) (by simp));have HJ1:=hid (hJ.same _ _ _ _ hj0 hW1.size (hW1.block _ hq.2) (λk e=>by cases e));have hR0:=zi1 M S v l 0 _ (hs.kept hB0) hz hok (xj hsh (hB0.block _ (AT hsh))) ((hin.kept hB0).mono hB0.size) hdn (by omega);rw[show ((0:Nat):Int)=0 from D] at hR0;obtain⟨r,hre⟩:∃ r,r=bS M l 0:=⟨_,D⟩
 rw[<- hre] at hR0;have HR0:=hid hR0;have HRE:=hid hre;have HLK:=hid hlook;have HF2:=hid hf2;have H:=hid hJ;have W:=hid hq;have HLW:=hid T;have HSH:=hid hsh;have HIN:=hid hin;have HDN:=hid hdn;have HZ0:bG (w0.heap.size<=w.heap.size):=hid T.size;have HOK:=hid hok;clear hR0 hre hlook hf2 hJ hq T hsh hin hdn hok hs hz hj0 hB0 hW1;go_enter func50,ntmps50;go_upto_region 2 with(first
  | (refine wpList_load_mid D 41 _ D w.heap.size 0 D (υ M S) _ HB4.out.c underlying41 D cn ?_)
  | (go_at_call 9;refine HR0.out.mono ?_;rintro e w5 ⟨X,SX,a1,a2,a3,m1,m2,m3,c1,c2,c3,rfl,hs5,hn5,t,hx5⟩
     have I:Below w5.heap.size w5 (w5.alloc (χ #[κ G 0 0,κ G 0 0,κ G 0 0] 47)):=stA (aR w5) _;have HB45:=hid ((HB4.out.kept t).kept I);have HB85:=hid ((HB8.out.kept t).kept I);have HJ5:=hid (H.out.same _ _ _ _ HJ1.out (ax t.size I.size) ((I.block _ (Θ (H.out.q _ _ _ HJ1.out) t.size)).trans (t.block _ (H.out.q _ _ _ HJ1.out))) (λk e=>by cases e));have HL5:=hid ((HL1.out.trans (Lw.of (g:=G) t) (λk e=>by cases e)).trans (Lw.of (g:=G) I) (λk e=>by cases e));have HS5:=hid hs5;have HS6:=hid (hs5.kept I);have L:bG (gA (w.heap.size+2) SX):=hid (hn5.mono (by simp));have HX5:=hid hx5;have HZ5:bG (w.heap.size+2<=w5.heap.size):=hid (by have:=t.size;simp at this;omega);have HS3:=hid (Bx.new w5 nil3 47 (b:=w5.heap.size) D);clear hs5 hn5 t hx5 I)
  | (refine wpList_store_mid D 41 _ _ D w.heap.size 0 (υ X SX).toArray D D (HB45.out.there 0 75 (by rw[dG];omega)) cn (iq _ _ (kC HS5.out)) ?_
     refine Pl.cutL (λι=>FI q w δ X SX [] G ι/\Bx ι w5.heap.size nil3) ⟨FI.of H.out W.out.2 HL5.out HB45.out (dG _ _) HB85.out HJ5.out (λk e=>by cases e) HS6.out L.out (λj hj a m c e _ e'=>by cases e'),DW.bb HS3.out (by have:=HZ5.out;omega)⟩ ?_;rintro Y1 ⟨hY1,hY1s⟩;have HY1:=hid hY1;have HY1s:=hid hY1s;clear hY1 hY1s)
  | (refine wpList_store_mid D 47 _ _ D w5.heap.size 0 #[κ a1 m1 c1,κ a2 m2 c2,κ a3 m3 c3] D D (HY1s.out.there 0 3 (by simp)) kX (lH _ _ _ _ _ _ _ _ _) ?_
     refine Pl.cutL (FI q w δ X SX [] G) (HY1.out.far H.out W.out.2 HZ5.out (λj hj a m c e hm=>i6 (HS5.out.lt j hj a m c e hm)) (by simp) _) ?_;intro Y2 hY2;have y:=hid hY2;clear hY2))
 clear HB4 HB8 HB45 HB85 HJ1 HJ5 HL1 HL5 HS3 HS5 HS6 HY1 HY1s HZ5 L HR0;by_cases hr:r=0
 case neg =>
  have F:=hid hr
  go_wp2_with (refine wpList_store_mid D 41 _ _ D (w.heap.size+1) 0 (υ aD aP).toArray D D (y.out.rb.there 0 75 (by rw[dG];omega)) cn (iq _ _ vS) ?_
               refine Pl.cutL (FR q w δ aD aP _ _) (FI.ret H.out W.out.2 y.out (Aa _) (A7 _)) ?_;intro V U;have p:=hid U;clear U)
  refine Ξ (v:=Ψ #[ac (υ aD aP).toArray,ν ξ,J Q r]) ?_ D ⟨aD,aP,ξ,r,_,_,D,aj ⟨F.out,D,D,aj (by unfold jz;rw[<- HRE.out,ae F.out])⟩,p.out.jj,p.out.sl,p.out.low,p.out.nw.mono (by omega)⟩;have l1:=run_loadVar_mid V (w.heap.size+1) 0 41 _ _ p.out.rb.c underlying41 D cn;simp only[results,results50];simp;show (aE (bL ω (bC 41 ⟨w.heap.size+1,0,G⟩) V) _)=_;rw[l1];rfl
 case pos =>
  subst hr;have B:=HRE.out.symm;have h1:M.chk=0:=by
   unfold bS at B;split at B
   ·assumption
   ·exact B
  have h2:chkIn l M.clock=0:=by
   unfold bS at B;rw[am h1] at B;split at B
   ·assumption
   ·exact B
  have hX:=(HX5.out D).1;have hXM:X=M:=hX;subst hXM;have hfit:=(HX5.out D).2;have F:=hid (InR.of h2 HDN.out);have HFIT:=hid hfit;have hcl:=hfit.clock;obtain⟨cl0,cl1⟩:=hcl;have x72:=y.out.bx.at 72 (J Q X.clock) D;have xz:=y.out.bx.z;clear hX B h1 h2 hfit;by_cases hg:0<=n/\n<=500/\X.clock+n<=200000
  case neg =>
   have HG:bG (jz X l n=3):=hid (by unfold jz;rw[<- HRE.out,am D,ae hg]);have hc:n<0 \/ (¬ n<0/\500<n) \/ (¬ n<0 /\ ¬ 500<n/\200000<X.clock+n/\IntKind.i64.wrap (X.clock+n)=X.clock+n):=by
    rw[aH];omega
   clear hg;rcases hc with g1|⟨g1,g2⟩|⟨g1,g2,g3,g4⟩
   all_goals
    go_wp2_with (refine wpList_store_mid D 41 _ _ D (w.heap.size+1) 0 (υ aD aP).toArray D D (y.out.rb.there 0 75 (by rw[dG];omega)) cn (iq _ _ vS) ?_
                 refine Pl.cutL (FR q w δ aD aP _ _) (FI.ret H.out W.out.2 y.out (Aa _) (A7 _)) ?_;intro V U;have p:=hid U;clear U)
    refine Ξ (v:=Ψ #[ac (υ aD aP).toArray,ν ξ,J Q 3]) ?_ D ⟨aD,aP,ξ,3,_,_,D,aj ⟨by decide,D,D,aj HG.out.symm⟩,p.out.jj,p.out.sl,p.out.low,p.out.nw.mono (by omega)⟩;have l1:=run_loadVar_mid V (w.heap.size+1) 0 41 _ _ p.out.rb.c underlying41 D cn;simp only[results,results50];simp;show (aE (bL ω (bC 41 ⟨w.heap.size+1,0,G⟩) V) _)=_;rw[l1];rfl
  case pos =>
   obtain⟨g0,g1,g2⟩:=hg;have HG:bG (jz X l n=0):=hid (by unfold jz;rw[<- HRE.out,am D,am ⟨g0,g1,g2⟩]);obtain⟨N,rfl⟩:=aA g0;obtain⟨M,hM⟩:∃ M,M=X:=⟨_,D⟩
   subst hM;have k1:¬ (N:Int)<0:=by omega
   have k2:¬ 500<(N:Int):=by omega
   have k3:¬ 200000<M.clock+(N:Int):=by omega
   have k4:IntKind.i64.wrap (M.clock+(N:Int))=M.clock+N:=by rw[aH];omega
   have L:bG (N<=500):=hid (by omega);have HCL:bG (0<=M.clock/\M.clock+N<=200000):=hid ⟨cl0,g2⟩;have HTN:bG (((N:Int)).toNat=N):=hid (by simp);clear g0 g1 g2;go_wp2;clear x72 xz k1 k2 k3 k4;go_loopw [12] (λv12 wr=>∃(j:Nat) (js:List Nat) (X:Mach) (SX:Sl) (g:Option Nat),v12=J Q 0/\Way M l N js j/\(∀ i∈js,b (M.aft l i)=ξ)/\X=M.aft l j/\X.fit/\FI q w δ X SX ((js.map (λi=>f (M.aft l i))).flatten) g wr) (λ_ wr=>M.clock.toNat+N-pU w.heap.size wr)
   case atStart=>exact⟨0,[],M,SX,G,D,Way.nil,λi hi=>by simp at hi,D,HFIT.out,y.out⟩
   case round =>
    clear y HX5;obtain⟨j,js,X,s,g,rfl,hWy,hbs,hX,hfx,hI⟩:=hrel;have hXc:X.clock=M.clock+j:=by rw[hX];exact wG F.out j
    have hle:=hWy.le F.out;have x72:=hI.bx.at 72 (J Q X.clock) D;have xz:=hI.bx.z;have o:=hid hI;have HWY:=hid hWy;have HBS:=hid hbs;have HX:=hid hX;have HFX:=hid hfx;have HXE:=hid hXc;have HLE:=hid hle;clear hWy hbs hX hfx hI;by_cases hlt:j<N
    ·have hd1:X.clock<M.clock+(N:Int):=by omega
     have hlk:=HLK.out ((js.map (λi=>f (M.aft l i))).flatten) g X s wr o.out.jj (o.out.low.below0 HLW.out W.out.1) o.out.sl HFX.out (by have:=zqy HF2.out (M.aft l) js;have:=L.out;omega);obtain⟨bb,hbb⟩:∃ bb,bb=b X:=⟨_,D⟩
     rw[<- hbb] at hlk;have HLX:=hid hlk;have HBB:=hid hbb;have HXC:bG (0<=X.clock/\X.clock<=200000):=hid (by have:=HCL.out;have:=HXE.out;omega);have Z:=hid hlt;have HIB:=hid o.out.bx;clear hlk hbb hlt hle hXc;cases bb
     ·obtain⟨dd,hdd⟩:∃ dd,dd=wnx M l N j-j:=⟨_,D⟩
      have hwi:min X.next (M.clock+(N:Int))-X.clock=(dd:Int):=by rw[HXE.out,HX.out,hdd];exact zvc F.out Z.out
      have hdb:=zqx F.out Z.out;have hdf:IntKind.i64.wrap (min X.next (M.clock+(N:Int))-X.clock)=(dd:Int):=by rw[hwi,aH];have:=L.out;omega
      have hrun:∀(v1:π) (ι:u),Below w0.heap.size w0 ι->cf ι s X->bP w0.heap.size ι v1 (comes X.clock l)->Δ ω 9 #[ac (υ X s).toArray,v1,J Q dd] ι λe w'=>∃(X':Mach) (S':Sl) (a1 a2 a3:Option Addr) (n1 n2 n3 c1 c2 c3:Nat),e=μ (Ψ #[ac (υ X' S').toArray,ac #[κ a1 n1 c1,κ a2 n2 c2,κ a3 n3 c3],J Q (bS X (comes X.clock l) dd)])/\cf w' S' X'/\gA ι.heap.size S'/\Below ι.heap.size ι w'/\(bS X (comes X.clock l) dd=0->X'=X.aft (comes X.clock l) dd/\X'.fit):=λv1 ι hb hs hi=>by
       have hI:InR X (comes X.clock l):=by have:=F.out.aft j;rw[<- HX.out,<- HXE.out] at this;exact this
       exact zi1 X s v1 (comes X.clock l) dd ι hs (λk hk=>ax (zF HFX.out k hk) (by decide)) { HFX.out with main:=HFX.out.main } (xj HSH.out (hb.block _ (AT HSH.out))) (hi.mono hb.size) hI.dn (by have:=L.out;omega)
      obtain⟨r2,hr2⟩:∃ r2,r2=bS X (comes X.clock l) dd:=⟨_,D⟩
      rw[<- hr2] at hrun;have HRUN:=hid hrun;have HR2:=hid hr2;have HDD:=hid hdd;have HDB:=hid hdb;have HWI:=hid hwi;clear hrun hr2 hdd hdb hwi;go_wp2_with (first
       | (refine wpList_load_mid D 41 _ D w.heap.size 0 D (υ X s) _ o.out.bx.c underlying41 D cn ?_)
       | (refine HLX.out.mono ?_;rintro e wl ⟨rfl,g2,hj2,hg2,hl2⟩;have HI:=hid (o.out.look W.out.2 hl2 hj2 hg2);clear hj2 hg2 hl2))
      refine qp (S:=λw'=>Bx w' w.heap.size (υ X s)) (st:=12) (by kernel_rfl) ?_;have P:=HI.out.bx.drew;refine b8 1 (λ_=>P) ?_;refine b8 2 (λ_=>P) ?_;refine b8 7 (λ_=>P) ?_;refine b8 9 (λ_=>P) ?_;refine sf [] 0 (ac (υ X s).toArray) D (λw' R=>ml 41 _ D w.heap.size 0 D (υ X s) _ R.c underlying41 D cn) P ?_;refine sf [6] 5 (ac (υ X s).toArray) D (λw' R=>ml 41 _ D w.heap.size 0 D (υ X s) _ R.c underlying41 D cn) P ?_;refine kU [4] 3 (λ_ R=>R.at 72 (J Q X.clock) D) P ?_;refine kU [11] 10 (λ_ R=>R.at 72 (J Q X.clock) D) P ?_;refine jy 4 (λK hK=>?_);go_simp;go_at_call 96
      refine(Wc.coming l v w0.heap.size X.clock _ (HIN.out.kept (HI.out.low.below0 HLW.out W.out.1).drew)).mono ?_;rintro e w1 ⟨⟨v1,rfl,hin1⟩,rfl⟩;have HI1:=hid (HI.out.kept H.out (aR wl).drew);have HN1:=hid hin1;clear hin1;try go_wp2_with fail
      refine jV hK (λ_=>HI1.out.bx) ?_;clear hK K;clear P;have P:=HI1.out.bx;refine jy 6 (λK hK=>?_);go_simp;go_at_call 97
      refine(Wc.next X s HXC.out _).mono ?_;rintro e w2 ⟨rfl,hb2⟩;have E:=hid (HI1.out.kept H.out hb2);have HB2:=hid hb2;clear hb2;try go_wp2_with fail
      refine jV hK (λ_=>E.out.bx) ?_;clear hK K;clear P;have P:=E.out.bx;refine b8 8 (λ_=>P) ?_;refine b8 11 (λ_=>P) ?_;refine jy 12 (λK hK=>?_);go_simp;go_at_call 9
      refine(HRUN.out v1 w2 (E.out.low.below0 HLW.out W.out.1) E.out.sl (HN1.out.kept (HB2.out.mono (ax HZ0.out HI1.out.low.size)))).mono ?_;rintro e w3 ⟨X',S',a1,a2,a3,n1,n2,n3,c1,c2,c3,rfl,hs3,hn3,hb3,hx3⟩;have HI3:=hid (E.out.kept H.out hb3);have HS3:=hid hs3;have HN3:bG (gA (w.heap.size+2) S'):=hid (hn3.mono E.out.rb.z);have HO3:bG (sR g2 S'):=hid (λj hj a m c e _ e'=>by have:=H.out.g _ _ _ E.out.jj _ e';have:=hn3 j hj a m c e;omega);have HX3:=hid hx3;clear hs3 hn3 hb3 hx3;try go_wp2_with fail
      refine jV hK (λh=>by simp at h) ?_;clear hK K;clear P;refine b8 13 (λh=>by simp at h) ?_;refine b8 14 (λh=>by simp at h) ?_;refine b8 15 (λh=>by simp at h) ?_;refine b8 16 (λh=>by simp at h) ?_;refine jy 17 (λK hK=>?_);refine pH D 41 _ _ D w.heap.size 0 (υ X' S').toArray D D (HI3.out.bx.there 0 75 (by rw[dG];omega)) cn (iq _ _ (kC HS3.out)) ?_;refine hK.out _ _ (λh=>by simp at h) ?_;clear hK K;refine b8 18 (λh=>by simp at h) ?_;refine pq (by kernel_rfl) ?_ _;refine Pl.cutE (FI q w δ X' S' ((js.map (λi=>f (M.aft l i))).flatten++f X) g2) (HI3.out.put H.out W.out.2 HS3.out HN3.out HO3.out) ?_;intro V3 hV3;have HV3:=hid hV3;clear hV3 HI HI1 E HI3 o HB2 HN1 HLX hdf;by_cases hr3:r2=0
      ·subst hr3
       go_wp2;refine⟨⟨wnx M l N j,js++[j],X',S',g2,D,Way.cons HWY.out Z.out,?_,?_,(HX3.out D).2,?_⟩,?_⟩
       ·intro i hi
        rcases cO.1 hi with hi|hi
        ·exact HBS.out i hi
        ·rw[dD.1 hi,<- HX.out];exact HBB.out.symm
       ·rw[(HX3.out D).1,HX.out,wG F.out j,<- zva F.out,HDD.out]
        congr 1;have:=HDB.out;omega
       ·rw[gQ,nQ]
        simp only[cI,dQ,jT,pa,cH,<- HX.out];exact HV3.out
       ·rw[zyh HV3.out.bx,zyh HIB.out,(HX3.out D).1]
        have e1:(X.aft (comes X.clock l) dd).clock=M.clock+(wnx M l N j:Nat):=by
         rw[HX.out,wG F.out j,<- zva F.out,wG F.out,HDD.out];have:=HDB.out;omega
        rw[e1,HXE.out];have:=HDB.out;have:=HCL.out;have:=Z.out;omega
      ·have HR3:=hid hr3
       go_wp2_with (refine wpList_store_mid D 41 _ _ D (w.heap.size+1) 0 (υ aD aP).toArray D D (HV3.out.rb.there 0 75 (by rw[dG];omega)) cn (iq _ _ vS) ?_
                    refine Pl.cutL (FR q w δ aD aP _ _) (FI.ret H.out W.out.2 HV3.out (Aa _) (A7 _)) ?_;intro V U;have p:=hid U;clear U)
       refine Ξ (v:=Ψ #[ac (υ aD aP).toArray,ν ξ,J Q r2]) ?_ D ⟨aD,aP,ξ,r2,_,_,D,aj ⟨HR3.out,D,D,ao ⟨HG.out,Wc.long HFIT.out F.out L.out HCL.out Z.out HX.out HFX.out HDD.out (HR2.out ▸ HR3.out)⟩⟩,p.out.jj,p.out.sl,p.out.low,p.out.nw.mono (by omega)⟩;have l1:=run_loadVar_mid V (w.heap.size+1) 0 41 _ _ p.out.rb.c underlying41 D cn;simp only[results,results50];simp;show (aE (bL ω (bC 41 ⟨w.heap.size+1,0,G⟩) V) _)=_;rw[l1];rfl
     ·go_wp2_with (first
       | (refine wpList_load_mid D 41 _ D w.heap.size 0 D (υ X s) _ HI.out.bx.c underlying41 D cn ?_)
       | (refine wpList_load_mid D 41 _ D w.heap.size 0 D (υ X s) _ o.out.bx.c underlying41 D cn ?_)
       | (refine HLX.out.mono ?_;rintro e wl ⟨rfl,g2,hj2,hg2,hl2⟩;have HI:=hid (o.out.look W.out.2 hl2 hj2 hg2);clear hj2 hg2 hl2)
       | (refine wpList_store_mid D 41 _ _ D (w.heap.size+1) 0 (υ X s).toArray D D (HI.out.rb.there 0 75 (by rw[dG];omega)) cn (iq _ _ (kC HI.out.sl)) ?_
          refine Pl.cutL (FR q w δ X s _ _) (FI.ret H.out W.out.2 HI.out HI.out.sl HI.out.nw) ?_;intro V U;have p:=hid U;clear U))
      refine Ξ (v:=Ψ #[ac (υ X s).toArray,ν Γ,J Q 0]) ?_ D ⟨X,s,Γ,0,_,_,D,ao ⟨D,HG.out,HFIT.out,F.out,js,j,by rw[HTN.out];exact HWY.out,HX.out,HBS.out,ao ⟨D,by rw[HTN.out];exact Z.out,HBB.out.symm,D⟩⟩,p.out.jj,p.out.sl,p.out.low,p.out.nw.mono (by omega)⟩;have l1:=run_loadVar_mid V (w.heap.size+1) 0 41 _ _ p.out.rb.c underlying41 D cn;simp only[results,results50];simp;show (aE (bL ω (bC 41 ⟨w.heap.size+1,0,G⟩) V) _)=_;rw[l1];rfl
    ·have hd1:¬ X.clock<M.clock+(N:Int):=by omega
     have HJN:bG (j=N):=hid (by omega);clear hlt hle hXc;go_wp2_with (first
      | (refine wpList_load_mid D 41 _ D w.heap.size 0 D (υ X s) _ o.out.bx.c underlying41 D cn ?_)
      | (refine wpList_store_mid D 41 _ _ D (w.heap.size+1) 0 (υ X s).toArray D D (o.out.rb.there 0 75 (by rw[dG];omega)) cn (iq _ _ (kC o.out.sl)) ?_
         refine Pl.cutL (FR q w δ X s _ _) (FI.ret H.out W.out.2 o.out o.out.sl o.out.nw) ?_;intro V U;have p:=hid U;clear U))
     refine Ξ (v:=Ψ #[ac (υ X s).toArray,ν ξ,J Q 0]) ?_ D ⟨X,s,ξ,0,_,_,D,ao ⟨D,HG.out,HFIT.out,F.out,js,j,by rw[HTN.out];exact HWY.out,HX.out,HBS.out,aj ⟨D,by rw[HTN.out];exact HJN.out,D⟩⟩,p.out.jj,p.out.sl,p.out.low,p.out.nw.mono (by omega)⟩;have l1:=run_loadVar_mid V (w.heap.size+1) 0 41 _ _ p.out.rb.c underlying41 D cn;simp only[results,results50];simp;show (aE (bL ω (bC 41 ⟨w.heap.size+1,0,G⟩) V) _)=_;rw[l1];rfl
theorem Wc.many(g o n a:Nat)(rom:List UInt8)(h:rom.length=n)(pc:Nat)(hp:pc<=65535)(hc:n<=a)(L:n<=9223372036854775807)(B:2<=n-pc)(w:u)(E:g<w.heap.size)(hb:iJ w g o rom)(q:AF w):Δ ω 99 #[κ (A ⟨g,o,G⟩) n a,J Y pc] w λe w'=>e=μ (Ω (aT (cZ rom pc)))/\Below w.heap.size w w':=by
 obtain⟨m,y⟩:∃ m,m=min ((n-pc)/2*2) 4:=⟨_,D⟩
 have z:min (pc:Int) (n:Int)=(pc:Int):=by omega
 have h1:pc<=n:=by omega
 have h2:pc<=a:=by omega
 have h3:decide (((n-pc:Nat):Int)<2)=ξ:=by simp;omega
 have F:¬ (((n-pc:Nat):Int)<2):=by omega
 have M:IntKind.i64.wrap (pc:Int)=pc:=by rw[aH];omega
 have H:min (((n-pc:Nat):Int)/2*2) 4=(m:Int):=by omega
 have i:jF w (κ (A ⟨g,o+pc,G⟩) m (a-pc)) ((rom.drop pc).take m):=ao ⟨g,o+pc,(a-pc),by rw[bD,cW,h,jv (by omega)],by rw[bD,cW,h];omega,E,λj c r=>by
  have s:j<m:=by
   have:=(ay.1 r).1;rw[bD] at this;omega
  rw[dN s] at r;exact hb.drop pc j c r⟩
 have d:((rom.drop pc).take m).length=m:=by rw[bD,cW,h];omega
 have f:oG ((rom.drop pc).take m)=(S.list ((rom.drop pc).take m),0):=by
  unfold oG;rw[d,ae (by omega),ae (by omega)]
 have t:=hid (zvJ _ _ w i q);rw[f] at t;obtain⟨T,p⟩:∃ T,T=S.list ((rom.drop pc).take m):=⟨_,D⟩
 have k:T.length<=10000:=by
  rw[p];unfold S.list;have:=zfn ((rom.drop pc).take m).length ((rom.drop pc).take m);omega
 have b:cZ rom pc=(Lib.cut T [10]).1:=by
  unfold cZ;rw[h,ae (by omega),<- y,<- p]
 rw[<- p] at t;rw[b];have I:=hid q;have v:=hid k;have h4:m<=(a-pc):=by omega
 have N:m<=n-pc:=by omega
 have P:¬ a=pc:=by omega
 clear f b p k d i q hb y B h;go_enter func99,ntmps99;go_wp2_with (first
  | (go_at_call 53;refine(Wc.cut T v.out _ (I.out.kept l)).mono ?_;rintro e w2 ⟨rfl,x⟩)
  | (go_at_call 174;refine t.out.mono ?_;rintro e w1 ⟨rfl,l⟩))
 go_ret;exact⟨D,bw l x⟩
theorem Wc.text(v:π)(rom:List UInt8)(pc:Int)(hp:0<=pc/\pc<=65535)(w:u)(f:sliceAt w v rom)(i:rom.length<=1024)(h:AF w):Δ ω 99 #[v,J Y pc] w λe w'=>e=μ (Ω (aT (cZ rom pc.toNat)))/\Below w.heap.size w w':=by
 obtain⟨p,rfl⟩:=aA hp.1;rw[bR];have c:p<=65535:=by omega
 rcases f with⟨a,b,rfl,rfl⟩|⟨g,o,b,rfl,h2,h3,h4⟩
 ·refine(Wc.few a 0 b p c (bh _) (by omega) (by omega) w).mono ?_
  rintro e w' ⟨rfl,rfl⟩;exact⟨by unfold cZ;rw[am (by simp)],aR _⟩
 ·by_cases d:rom.length-p<2
  ·refine(Wc.few _ rom.length b p c h2 (by omega) d w).mono ?_
   rintro e w' ⟨rfl,rfl⟩;exact⟨by unfold cZ;rw[am d],aR _⟩
  ·exact Wc.many g o rom.length b rom D p c h2 (by omega) (by omega) w h3 h4 h
def Mach.mdue(M:Mach):Bool:=decide (M.mready<=M.clock) && (!M.main.Waits && !(M.main.May && (M.t.g || M.b.g)))
def Mach.adue(M:Mach):Bool := !M.held && decide (M.aready<=M.clock) && (!M.aux.Waits && !(M.aux.May && M.rung))
def Mach.mdid(M:Mach):List Dd:=if M.mdue then [⟨M.clock,ξ,M.main.PC,cZ M.mrom M.main.PC.toNat⟩] else []
def Mach.adid(M:Mach):List Dd:=if M.adue then [⟨M.clock,Γ,M.aux.PC,cZ M.arom M.aux.PC.toNat⟩] else []
def Mach.due(M:Mach):List Dd:=M.mdid++M.adid
structure WD (w : u) (M : Mach) (S : Sl) (ι : u) : Prop where
 low:Below w.heap.size w ι
 bx:Bx ι w.heap.size (υ M S)
theorem WD.kept{w:u}{M:Mach}{S:Sl}{ι Y':u}(h:WD w M S ι)(hb:Below ι.heap.size ι Y'):WD w M S Y':=⟨bw h.low hb,h.bx.kept hb⟩
--MID
theorem WD.s3{w:u}{M:Mach}{S:Sl}{ι:u}(h:WD w M S ι):ι.cell? ⟨w.heap.size,72,G⟩=A (J Q M.clock)/\ι.cell? ⟨w.heap.size,8,G⟩=A (J Y M.main.PC)/\ι.cell? ⟨w.heap.size,30,G⟩=A S.mr:=⟨h.bx.at 72 _ rfl,h.bx.at 8 _ rfl,h.bx.at 30 _ rfl⟩
theorem WD.s5{w:u}{M:Mach}{S:Sl}{ι:u}(h:WD w M S ι):ι.cell? ⟨w.heap.size,72,G⟩=A (J Q M.clock)/\ι.cell? ⟨w.heap.size,23,G⟩=A (J Y M.aux.PC)/\ι.cell? ⟨w.heap.size,31,G⟩=A S.ar:=⟨h.bx.at 72 _ rfl,h.bx.at 23 _ rfl,h.bx.at 31 _ rfl⟩
theorem WD.grown{w:u}{M:Mach}{S:Sl}{ι Y':u}{v:π}{n:Nat}{xs:List π}{t:aJ}{z:Nat}(h:WD w M S ι)(b:ι.ownsRow (w.heap.size+1) t z v n xs)(a:ι.grownBy Y' v.ownBlock):WD w M S Y' :=
 ⟨h.low.grown a h.low.size (λk e=>by have:=(jE b k e).1;omega),h.bx.same a.size (a.block _ h.bx.z (λe=>by have:=(jE b _ e.symm).1;omega))⟩
theorem yA{B:Nat}{t:aJ}{z n:Nat}{v:π}{xs:List π}{ι Y':u}(h:ι.ownsRow B t z v n xs)(hb:Below ι.heap.size ι Y'):Y'.ownsRow B t z v n xs :=
 h.kept (rx hb) (by cases e:v.ownBlock with|none=>exact aj rfl|some g=>exact ao (by simp))
theorem zgW{P:Program}{a:Act}{o:cG}{w:u}(t:aJ)(i j k l:Nat)(x y z θ:dk)(g:o.op=.build t #[(i,x),(j,y),(k,z),(l,θ)])(c d e f v:π)(h:a.eval x=c)(m:a.eval y=d)(n:a.eval z=e)(p:a.eval θ=f)
 (b:(dw t #[(i,c),(j,d),(k,e),(l,f)]).run P w=.ok v w):(execOp a.eval o).run P w=.ok (.value v) w :=
 zdF t _ g v (by simp only[fy,cI,dQ,h,m,n,p];exact b)
theorem zqz(c p:Int)(t:List UInt8)(w:u):(dw 78 #[(0,J Q c),(2,J Y p),(3,Ω (aT t))]).run ω w=.ok (ac (ib ⟨c,ξ,p,t⟩).toArray) w:=by kernel_rfl
theorem zqA(c p:Int)(t:List UInt8)(w:u):(dw 78 #[(0,J Q c),(1,ν Γ),(2,J Y p),(3,Ω (aT t))]).run ω w=.ok (ac (ib ⟨c,Γ,p,t⟩).toArray) w:=by kernel_rfl
theorem zfX(x:Dd)(w:u):(gx 70 1 #[(0,ac (ib x).toArray)]).run ω w=.ok (κ (A ⟨w.heap.size,0,G⟩) 1 1) (w.alloc (χ (ib x).toArray 78)):=by kernel_rfl
theorem A8:(Tryz.prog.info? 78).map (λi=>(i.zero,i.size,i.bytes))=A (A (ac #[J Q 0,ν ξ,J Y 0,Ω ⟨#[]⟩]),4,32):=by kernel_rfl
theorem A9(x:Dd):∀ θ∈ib x,θ.oneCell'=Γ:=λθ a=>by
 simp only[ib,bp,cz,gC] at a;rcases a with rfl|rfl|rfl|rfl <;> rfl
theorem Ba{B:Nat}{t:aJ}{z n:Nat}{v:π}{xs:List π}{ι:u}(h:ι.ownsRow (B+1) t z v n xs):ι.ownsRow B t z v n xs:=by
 obtain⟨e,h|⟨g,c,fr,h1,h2,h3⟩⟩:=h
 ·exact⟨e,aj h⟩
 ·exact⟨e,ao ⟨g,c,fr,h1,by omega,h3⟩⟩
theorem WD.auxR{w:u}{M:Mach}{S:Sl}{ι:u}(h:WD w M S ι):ι.rangeAt w.heap.size 15 (bY M.aux):=λi v hi=>by
 refine h.bx.at (15+i) v ?_;have a:=(ay.1 hi).1;unfold υ;rw[aY (by show 15<=15+i;omega),bc (by show 15+i-15<_;omega),show 15+i-(bY M.main).length=i by show 15+i-15=i;omega];exact hi
theorem zpc(l:List Dd)(x:Dd):lE (l++[x])=lE l++ib x:=by simp[lE]
theorem Wc.due(M:Mach)(S:Sl)(w:u)(hs:cf w S M)(hf:M.fit)(hF:AF w):Δ ω 52 #[ac (υ M S).toArray] w λe w'=>∃ v,e=μ v/\w'.ownsRow w.heap.size 78 4 v M.due.length (lE M.due)/\Below w.heap.size w w':=by
 have hW:WD w M S (w.alloc (χ (υ M S).toArray 41)):=⟨stA (aR w) _,Bx.new w (υ M S) 41 (b:=w.heap.size) D⟩
 have F:=hid hW;have HS:=hid hs;have H:=hid hf;have HF:=hid hF;clear hW hs hf hF;go_enter func52,ntmps52;go_upto_region 2 with fail
 go_cut [1,3,21] (λv1 v3 v21 ι=>v1=pt w.heap.size 0/\v3=κ G 0 0/\v21=ν M.mdue/\WD w M S ι)
 case first =>
  have x72:=F.out.bx.at 72 (J Q M.clock) D;have x73:=F.out.bx.at 73 (J Q M.mready) D;have x44:=F.out.bx.at 44 (ν M.t.g) D;have x63:=F.out.bx.at 63 (ν M.b.g) D;have hz:=F.out.bx.z;have N1:bG ((w.alloc (χ (υ M S).toArray 41)).rangeAt w.heap.size 0 (bY M.main)):=hid (λj v hj=>by rw[aX];exact F.out.bx.at j v (by unfold υ;rw[bc (ay.1 hj).1];exact hj));have r:bG (M.mdue=(decide (M.mready<=M.clock) && (!M.main.Waits && !(M.main.May && (M.t.g || M.b.g))))):=hid D;obtain⟨tg,htg⟩:∃ b,b=M.t.g:=⟨_,D⟩
  rw[<- htg] at x44 r;clear htg;by_cases I:M.mready<=M.clock
  ·have hd:decide (M.mready<=M.clock)=Γ:=aO I
   rw[hd] at r;clear I;cases tg;all_goals
    go_wp2_with (first
     | (go_at_call 98;refine(zqw M.main _ _).mono ?_;rintro e w1 ⟨rfl,s⟩;have R:=hid (F.out.kept s))
     | (refine Bu.loadG D 25 _ D w.heap.size 0 D (bY M.main) _ N1.out underlying25 D sX ?_))
    go_meet;exact⟨D,D,by rw[r.out];simp,R.out⟩
  ·have hd:decide (M.mready<=M.clock)=ξ:=aG I
   rw[hd] at r;clear I;go_wp2;go_meet;exact⟨D,D,by rw[r.out];rfl,F.out⟩
 case rest =>
  obtain⟨rfl,rfl,rfl,hY⟩:=hcut;have o:=hid hY;have T:bG (wc.ownsRow (w.heap.size+1) 78 4 (κ G 0 0) ([]:List Dd).length (lE [])):=hid ⟨D,aj ⟨D,D⟩⟩;have n:bG (([]:List Dd).length<=1):=hid (bh _);have x:bG (M.mdid=if M.mdue then [⟨M.clock,ξ,M.main.PC,cZ M.mrom M.main.PC.toNat⟩] else []):=hid D;obtain⟨md,hmd⟩:∃ b,b=M.mdue:=⟨_,D⟩
  rw[<- hmd] at x ⊢;clear hY hmd F;cases md
  case' true =>
   go_wp2;refine wp_region_held_drew (S:=λw'=>w'.cell? ⟨w.heap.size,72,G⟩=A (J Q M.clock)/\w'.cell? ⟨w.heap.size,8,G⟩=A (J Y M.main.PC)/\w'.cell? ⟨w.heap.size,30,G⟩=A S.mr) (by kernel_rfl) (o.out.s3) ?_;intro a;refine dy 0 ⟨A 22,_,_,_,_,G⟩ a ?_;simp only[ag,xA,xB,xC];refine dy 1 ⟨A 23,_,_,_,_,G⟩ a ?_;simp only[ag,xA,xB,xC];refine dy 3 ⟨A 25,_,_,_,_,G⟩ a ?_;simp only[ag,xA,xB,xC];refine dy 4 ⟨A 26,_,_,_,_,G⟩ a ?_;simp only[ag,xA,xB,xC];refine dy 6 ⟨A 28,_,_,_,_,G⟩ a ?_;simp only[ag,xA,xB,xC];refine dy 8 ⟨A 30,_,_,_,_,G⟩ a ?_;simp only[ag,xA,xB,xC];refine dy 9 ⟨A 31,_,_,_,_,G⟩ a ?_;simp only[ag,xA,xB,xC];refine nU 2 (λ_ c=>c.1) a ?_;refine nU 5 (λ_ c=>c.2.1) a ?_;refine nU 7 (λ_ c=>c.2.2) a ?_;refine nU 10 (λ_ c=>c.2.1) a ?_;refine gy 11 (λK k=>?_);go_simp;go_at_call 99
   refine(Wc.text S.mr M.mrom M.main.PC H.out.main.2.2 _ (HS.out.kept o.out.low.drew 0 (by decide)) H.out.mrom (HF.out.kept o.out.low.drew)).mono ?_;rintro e w2 ⟨rfl,d⟩;have l:=hid (o.out.kept (bw (aR wc).drew d));have L:=hid (yA T.out (bw (aR wc).drew d));clear d;try go_wp2_with fail
   refine gL k (l.out.s3) (λ_=>?_);clear k K;clear a;have a:=l.out.s3;refine jW 12 (ac (ib ⟨M.clock,ξ,M.main.PC,cZ M.mrom M.main.PC.toNat⟩).toArray) D (λw' _=>zE 78 0 2 3 _ _ _ D (J Q M.clock) (J Y M.main.PC) (Ω (aT (cZ M.mrom M.main.PC.toNat))) (ac (ib ⟨M.clock,ξ,M.main.PC,cZ M.mrom M.main.PC.toNat⟩).toArray) D D D (zqz _ _ _ w')) a ?_;refine gy 13 (λK k=>?_);refine xu D 70 1 0 _ D (ac (ib ⟨M.clock,ξ,M.main.PC,cZ M.mrom M.main.PC.toNat⟩).toArray) D (zfX ⟨M.clock,ξ,M.main.PC,cZ M.mrom M.main.PC.toNat⟩ _) ?_;have i:=hid (l.out.kept (stA (aR w2) (χ (ib ⟨M.clock,ξ,M.main.PC,cZ M.mrom M.main.PC.toNat⟩).toArray 78)));have p:=hid (yA L.out (stA (aR w2) (χ (ib ⟨M.clock,ξ,M.main.PC,cZ M.mrom M.main.PC.toNat⟩).toArray 78)));refine gL k (i.out.s3) (λ_=>?_);clear k K;clear a;have a:=i.out.s3;refine gy 14 (λK k=>?_);obtain⟨i1,U,V,W,X⟩:=info_parts A8;refine step_append_lies _ (by rfl) (.tmp 22) (.tmp 35) 70 (by rfl) (w.heap.size+1) 78 i1 _ 4 32 underlying70 U V W X D (by omega) (κ G 0 0) ([]:List Dd).length (lE ([]:List Dd)) D p.out ⟨w2.heap.size,0,G⟩ 1 1 (ib ⟨M.clock,ξ,M.main.PC,cZ M.mrom M.main.PC.toNat⟩) D D (xw _ w2) (A9 _) (by omega) (by unfold dI;have:=n.out;omega) (by have:=n.out;omega) (ax i.out.bx.z (ψ _)) _ D ?_
   intro g1 P W3 f y B Z;have N:=hid f;have m:=hid (i.out.grown p.out y);clear f y B Z;refine gL k (m.out.s3) (λ_=>?_);clear k K;clear a;have a:=m.out.s3;refine dy 15 ⟨A 3,_,_,_,_,G⟩ a ?_;simp only[ag,xA,xB,xC];refine wpAnyH_done (by kernel_rfl) ?_ _;go_simp;have E:bG (W3.ownsRow (w.heap.size+1) 78 4 (κ (A ⟨g1,0,G⟩) 1 P) M.mdid.length (lE M.mdid)):=hid (by rw[x.out];exact N.out);have h:=m;clear N m i p L l a T o n x
  case' false =>
   have E:bG (wc.ownsRow (w.heap.size+1) 78 4 (κ G 0 0) M.mdid.length (lE M.mdid)):=hid (by rw[x.out];exact T.out);have h:=o;clear T o n x
  all_goals
   go_upto_region 4 with fail
   go_cut [1,3,53] (λv1 v3 v53 ι=>v1=pt w.heap.size 0/\v53=ν M.adue/\WD w M S ι/\ι.ownsRow (w.heap.size+1) 78 4 v3 M.mdid.length (lE M.mdid))
   case first =>
    have x68:=h.out.bx.at 68 (ν M.held) D;have x71:=h.out.bx.at 71 (ν M.rung) D;have x72:=h.out.bx.at 72 (J Q M.clock) D;have x74:=h.out.bx.at 74 (J Q M.aready) D;have hz:=h.out.bx.z;have N2:=hid h.out.auxR;have q:bG (M.adue=(!M.held && decide (M.aready<=M.clock) && (!M.aux.Waits && !(M.aux.May && M.rung)))):=hid D;obtain⟨hd,hhd⟩:∃ b,b=M.held:=⟨_,D⟩
    rw[<- hhd] at x68 q;clear hhd;cases hd
    ·by_cases I:M.aready<=M.clock
     ·have hdd:decide (M.aready<=M.clock)=Γ:=aO I
      rw[hdd] at q;clear I;go_wp2_with (first
       | (go_at_call 98;refine(zqw M.aux _ _).mono ?_;rintro e w1 ⟨rfl,s⟩;have R:=hid (h.out.kept s);have HO4:=hid (yA E.out s);clear s)
       | (refine Bu.loadG D 25 _ D w.heap.size 15 D (bY M.aux) _ N2.out underlying25 D sX ?_))
      go_meet;exact⟨D,by rw[q.out];simp,R.out,HO4.out⟩
     ·have hdd:decide (M.aready<=M.clock)=ξ:=aG I
      rw[hdd] at q;clear I;go_wp2;go_meet;exact⟨D,by rw[q.out];rfl,h.out,E.out⟩
    ·go_wp2
     go_meet;exact⟨D,by rw[q.out];rfl,h.out,E.out⟩
   case rest =>
    obtain⟨rfl,rfl,hY,hO⟩:=hcut;have o:=hid hY;have T:=hid hO;have n:bG (M.mdid.length<=1):=hid (by unfold Mach.mdid;split <;> simp);have HAI:bG (M.adid=if M.adue then [⟨M.clock,Γ,M.aux.PC,cZ M.arom M.aux.PC.toNat⟩] else []):=hid D;obtain⟨ad,had⟩:∃ b,b=M.adue:=⟨_,D⟩
    rw[<- had] at HAI ⊢;clear hY hO had h E;cases ad
    ·go_wp2
     go_ret;exact⟨_,D,by show wc.ownsRow _ _ _ _ (M.mdid++M.adid).length (lE (M.mdid++M.adid));rw[HAI.out];simp only[cD,fj,cH];exact Ba T.out,o.out.low⟩
    ·go_wp2
     refine wp_region_held_drew (S:=λw'=>w'.cell? ⟨w.heap.size,72,G⟩=A (J Q M.clock)/\w'.cell? ⟨w.heap.size,23,G⟩=A (J Y M.aux.PC)/\w'.cell? ⟨w.heap.size,31,G⟩=A S.ar) (by kernel_rfl) (o.out.s5) ?_;intro a;refine dy 0 ⟨A 54,_,_,_,_,G⟩ a ?_;simp only[ag,xA,xB,xC];refine dy 1 ⟨A 55,_,_,_,_,G⟩ a ?_;simp only[ag,xA,xB,xC];refine dy 3 ⟨A 57,_,_,_,_,G⟩ a ?_;simp only[ag,xA,xB,xC];refine dy 4 ⟨A 58,_,_,_,_,G⟩ a ?_;simp only[ag,xA,xB,xC];refine dy 6 ⟨A 60,_,_,_,_,G⟩ a ?_;simp only[ag,xA,xB,xC];refine dy 8 ⟨A 62,_,_,_,_,G⟩ a ?_;simp only[ag,xA,xB,xC];refine dy 9 ⟨A 63,_,_,_,_,G⟩ a ?_;simp only[ag,xA,xB,xC];refine nU 2 (λ_ c=>c.1) a ?_;refine nU 5 (λ_ c=>c.2.1) a ?_;refine nU 7 (λ_ c=>c.2.2) a ?_;refine nU 10 (λ_ c=>c.2.1) a ?_;refine gy 11 (λK k=>?_);go_simp;go_at_call 99
     refine(Wc.text S.ar M.arom M.aux.PC H.out.aux.2.2 _ (HS.out.kept o.out.low.drew 1 (by decide)) H.out.arom (HF.out.kept o.out.low.drew)).mono ?_;rintro e w2 ⟨rfl,d⟩;have l:=hid (o.out.kept (bw (aR wc).drew d));have L:=hid (yA T.out (bw (aR wc).drew d));clear d;try go_wp2_with fail
     refine gL k (l.out.s5) (λ_=>?_);clear k K;clear a;have a:=l.out.s5;refine jW 12 (ac (ib ⟨M.clock,Γ,M.aux.PC,cZ M.arom M.aux.PC.toNat⟩).toArray) D (λw' _=>zgW 78 0 1 2 3 _ _ _ _ D (J Q M.clock) (ν Γ) (J Y M.aux.PC) (Ω (aT (cZ M.arom M.aux.PC.toNat))) (ac (ib ⟨M.clock,Γ,M.aux.PC,cZ M.arom M.aux.PC.toNat⟩).toArray) D D D D (zqA _ _ _ w')) a ?_;refine gy 13 (λK k=>?_);refine xu D 70 1 0 _ D (ac (ib ⟨M.clock,Γ,M.aux.PC,cZ M.arom M.aux.PC.toNat⟩).toArray) D (zfX ⟨M.clock,Γ,M.aux.PC,cZ M.arom M.aux.PC.toNat⟩ _) ?_;have i:=hid (l.out.kept (stA (aR w2) (χ (ib ⟨M.clock,Γ,M.aux.PC,cZ M.arom M.aux.PC.toNat⟩).toArray 78)));have p:=hid (yA L.out (stA (aR w2) (χ (ib ⟨M.clock,Γ,M.aux.PC,cZ M.arom M.aux.PC.toNat⟩).toArray 78)));refine gL k (i.out.s5) (λ_=>?_);clear k K;clear a;have a:=i.out.s5;refine gy 14 (λK k=>?_);obtain⟨i1,U,V,W,X⟩:=info_parts A8;refine step_append_lies _ (by rfl) (.tmp 54) (.tmp 67) 70 (by rfl) (w.heap.size+1) 78 i1 _ 4 32 underlying70 U V W X D (by omega) u3 M.mdid.length (lE M.mdid) D p.out ⟨w2.heap.size,0,G⟩ 1 1 (ib ⟨M.clock,Γ,M.aux.PC,cZ M.arom M.aux.PC.toNat⟩) D D (xw _ w2) (A9 _) (by omega) (by unfold dI;have:=n.out;omega) (by have:=n.out;omega) (ax i.out.bx.z (ψ _)) _ D ?_
     intro g1 P W3 f y B Z;have N:=hid f;have m:=hid (i.out.grown p.out y);clear f y B Z;refine gL k (m.out.s5) (λ_=>?_);clear k K;clear a;have a:=m.out.s5;refine dy 15 ⟨A 3,_,_,_,_,G⟩ a ?_;simp only[ag,xA,xB,xC];refine wpAnyH_done (by kernel_rfl) ?_ _;go_simp;go_wp2;go_ret;exact⟨_,D,by show W3.ownsRow _ _ _ _ (M.mdid++M.adid).length (lE (M.mdid++M.adid));rw[HAI.out,am trivial,zpc,az];exact Ba N.out,m.out.low⟩
theorem zzP(l:List Dd):∀ θ∈lE l,θ.oneCell'=Γ:=λθ a=>by
 unfold lE at a;obtain⟨x,b,h⟩:=List.mem_flatten.1 a;obtain⟨y,_,rfl⟩:=gc.1 b;exact A9 y θ h
theorem zxC(a b:List Dd):lE (a++b)=lE a++lE b:=by simp[lE]
theorem zpd(X:Mach):X.due.length<=2:=by
 unfold Mach.due Mach.mdid Mach.adid;split <;> split <;> simp
theorem zpe{w:u}{v:π}{n z B:Nat}{xs:List π}{t:aJ}{ops:Array cG}{o:cG}{a:Act}{K:Act->u->Prop}{η:Exit->Act->u->Prop}{E:Prop}{L:aJ}{M:π}{y:Nat}(q:Nat)(p:Tryz.prog.underlying L=A (.slice t))(r:(Tryz.prog.info? t).map (λi=>(i.zero,i.size,i.bytes))=A (A M,z,y))(N:M.cells.size=z)(hz:0<z)(hy:y<=64)
 (F:o.guard=G) (s x:dk) (ho:o.op=.call { callee:=.builtin .append,args:=#[s,x],argTypes:=#[L,L] }) (hs:a.eval s=v) (b:w.ownsRow B t z v n xs) (xv:π) (hx:a.eval x=xv) {m:Nat} {ys:List π} (P:kO w xv m z ys) (h1:∀ θ∈ys,θ.oneCell'=Γ) (hb:n+m<=100000) (hB:B<=w.heap.size)
 (h:∀ v' w',w'.ownsRow B t z v' (n+m) (xs++ys)->Lw q v.ownBlock w w'->(v'.ownBlock=v.ownBlock \/ ∃ k,v'.ownBlock=A k/\w.heap.size<=k)->K (a.put o.dst v') w'):if b9 o (yielded ops a.tmps)=Γ then Oper.wp ω o a w K η else E:=by
 obtain⟨i0,H,R,T,U⟩:=info_parts r;by_cases hm:m=0
 ·subst hm
  obtain⟨ad,c,rfl⟩:=P.len;have V:ys=[]:=fM (by rw[P.1];omega);have I:=vI p i0 H o.type b ad c;rw[am (by simp[b9,F])];unfold Oper.wp;simp[execOp,ho,resolve,invoke,builtin,hs,hx,I,aE];exact h v w (by rw[V];simpa using b) (Lw.of (bq _ _)) (aj D)
 ·obtain⟨W,X|⟨g,o',c,e1,e2,e3,e4⟩⟩:=P
  ·exact absurd X.1 hm
  ·refine step_append_lies _ F s x _ ho B t i0 M z y p H R T U N hz v n xs hs b ⟨g,o',G⟩ m c ys (hx.trans e1) W (λj θ hj=>by rw[addr_add];exact e4 j θ hj) h1 (by omega) (by unfold dI;omega) (ax (qd hb hy) (by decide)) hB w.heap.size D ?_
   intro g' cap w' l d Z _;have f:=(bq 0 w).grown d (bh _) (λk hk=>bh _)
   exact h _ w' l ⟨f.os,f.tape,f.output,f.size,λk hk _ hne=>d.block k hk (λe=>hne e.symm)⟩ (by
    rcases Z with e|rfl
    ·exact aj e.symm
    ·exact ao ⟨_,D,ψ _⟩)
structure JT0 (q : Nat) (acc : List Dd) (v : π) (w : u) : Prop where
 bx:Bx w q [v]
 own:w.ownsRow (q+1) 78 4 v acc.length (lE acc)
def JT(q:Nat)(acc:List Dd)(g:Option Nat)(w:u):Prop:=∃ v,JT0 q acc v w/\g=v.ownBlock
theorem JT.jw(q:Nat):Jw q (JT q) where
 same:=by
  rintro acc g w w' ⟨v,h,rfl⟩ a b c;exact⟨v,⟨h.bx.same a b,jr h.own c⟩,D⟩
 q:=by
  rintro acc g w ⟨v,h,rfl⟩;exact h.bx.z
 g:=by
  rintro acc g w ⟨v,h,rfl⟩ k e;exact(jE h.own k e).2.1
structure LT (ι : u) (X : Mach) (SX : Sl) (Z : u) : Prop where
 low:Below ι.heap.size ι Z
 mb:Bx Z ι.heap.size (υ X SX)
section
variable {ι Z Z' : u} {X : Mach} {SX : Sl} {q : Nat} {acc : List Dd} {v : π}
theorem LT.kept(h:LT ι X SX Z)(hb:Below Z.heap.size Z Z'):LT ι X SX Z':=⟨bw h.low hb,h.mb.kept hb⟩
theorem LT.drew(h:LT ι X SX Z):LT ι X SX Z.drew:=⟨h.low.drew,h.mb.drew⟩
theorem LT.ss(h:LT ι X SX Z)(a:JT0 q acc v ι):Z.cell? ⟨q,0,G⟩=A v/\Bx Z ι.heap.size (υ X SX):=⟨(a.bx.kept h.low).at 0 v rfl,h.mb⟩
theorem LT.own(h:LT ι X SX Z)(a:JT0 q acc v ι):Z.ownsRow (q+1) 78 4 v acc.length (lE acc):=jr a.own (λk e=>h.low.block k (jE a.own k e).2.1)
theorem LT.qz(h:LT ι X SX Z)(a:JT0 q acc v ι):q+1<=Z.heap.size:=Θ a.bx.z h.low.size
theorem LT.blk(h:LT ι X SX Z)(a:JT0 q acc v ι)(b:Lw Z.heap.size v.ownBlock Z Z'):Z'.heap[q]?=ι.heap[q]?:=by
 have c:=a.bx.z;have:=h.low.size;exact(b.block q (by omega) (by omega) (λe=>by have:=(jE a.own q e).1;omega)).trans (h.low.block q c)
theorem LT.qs(h:LT ι X SX Z)(a:JT0 q acc v ι)(b:Lw Z.heap.size v.ownBlock Z Z'):Z'.cell? ⟨q,0,G⟩=A v/\q<Z'.heap.size/\Z'.frozen? ⟨q,0,G⟩=ξ:=by
 have hb:=a.bx.same (ax h.low.size b.size) (h.blk a b);exact⟨hb.at 0 v D,hb.z,hb.f 0⟩
theorem LT.fin{v':π}(h:LT ι X SX Z)(b:JT0 q acc v ι)(a:Lw Z.heap.size v.ownBlock Z Z')(c:Z'.ownsRow (q+1) 78 4 v' (acc.length+X.due.length) (lE acc++lE X.due))(f:v'.ownBlock=v.ownBlock \/ ∃ k,v'.ownBlock=A k/\Z.heap.size<=k):JT q (acc++X.due) v'.ownBlock (Z'.setCell ⟨q,0,G⟩ v')/\(v'.ownBlock=v.ownBlock \/ ∃ k,v'.ownBlock=A k/\ι.heap.size<=k)/\Lw q v.ownBlock ι (Z'.setCell ⟨q,0,G⟩ v'):=by
 have hb:=(b.bx.same (ax h.low.size a.size) (h.blk b a)).set 0 v' (by simp);have g:=h.low.size;refine⟨⟨v',⟨hb,?_⟩,D⟩,?_,?_⟩
 ·rw[az,zxC]
  exact jr c (λk e=>cF _ _ _ _ (by have:=(jE c k e).1;simp;omega))
 ·rcases f with e|⟨k,e,d⟩
  ·exact aj e
  ·exact ao ⟨k,e,by omega⟩
 ·have h1:Below q Z' (Z'.setCell ⟨q,0,G⟩ v'):=iK (p:=⟨q,0,G⟩) (bq q Z') (ψ q) v'
  exact⟨h1.os.trans (a.os.trans h.low.os),h1.tape.trans (a.tape.trans h.low.tape),h1.output.trans (a.output.trans h.low.output),ax (ax g a.size) h1.size,λk d h2 h3=>((cF _ _ _ _ (by simpa using h2)).trans (a.block k (by omega) (by omega) h3)).trans (h.low.block k d)⟩
end
theorem Wc.lookT(q:Nat)(w0:u)(I:AF w0):∀ acc g X SX ι,JT q acc g ι->Below w0.heap.size w0 ι->cf ι SX X->X.fit->acc.length<=1000->Δ ω 51 #[ac (υ X SX).toArray,pt q 0] ι λe w'=>e=μ (ν ξ) /\ ∃ g',JT q (acc++X.due) g' w'/\(g'=g \/ ∃ k,g'=A k/\ι.heap.size<=k)/\Lw q g ι w':=by
 rintro acc g X SX ι ⟨v,L,rfl⟩ i M N j;have B:bG (LT ι X SX (ι.alloc (χ (υ X SX).toArray 41))):=hid ⟨stA (aR ι) _,Bx.new ι (υ X SX) 41 (b:=ι.heap.size) D⟩;have n:=hid L;have E:=hid M;have F:=hid N;have R:=hid (I.kept i);have H:=hid j;clear L i M N I j;go_enter func51,ntmps51;go_wp2;refine qp (S:=λw'=>w'.cell? ⟨q,0,G⟩=A v/\Bx w' ι.heap.size (υ X SX)) (st:=3) (by kernel_rfl) ?_;have r:=B.out.drew.ss n.out;refine kU [] 0 (λ_ o=>o.1) r ?_;refine sf [2] 1 (ac (υ X SX).toArray) D (λw' o=>ml 41 _ D ι.heap.size 0 D (υ X SX) _ o.2.c underlying41 D cn) r ?_;refine jy 2 (λK l=>?_);go_simp;go_at_call 52
 refine(Wc.due X SX _ (E.out.kept B.out.low.drew) F.out (R.out.kept B.out.low.drew)).mono ?_;rintro e w2 ⟨v2,rfl,f,s⟩;have a:=hid (B.out.drew.kept s);have t:=hid f;clear f s;try go_wp2_with fail
 refine jV l (λ_=>a.out.ss n.out) ?_;clear l K;clear r;have r:=a.out.ss n.out;refine jy 3 (λK l=>?_);refine zpe w2.heap.size underlying70 A8 D (by omega) (by omega) (by rfl) _ _ (by rfl) (by rfl) (a.out.own n.out) _ (by rfl) (vU t.out) (zzP _) (by have:=H.out;have:=zpd X;omega) (a.out.qz n.out) ?_;intro v3 W d p w;obtain⟨a3,c3,e3⟩:=vT d;subst e3;obtain⟨q0,qz,T⟩:=a.out.qs n.out p;have x:=hid d;have y:=hid p;have z:=hid w;clear d p w;refine jV l (λh=>by simp at h) ?_;clear l K;clear r;refine jy 4 (λK l=>?_);go_simp;refine l.out _ _ (λh=>by simp at h) ?_;clear l K;refine pq (by kernel_rfl) ?_ _;have m:=a.out.fin n.out y.out x.out z.out;refine Pl.cutE (λV=>JT q (acc++X.due) (κ a3 (acc.length+X.due.length) c3).ownBlock V/\((κ a3 (acc.length+X.due.length) c3).ownBlock=v.ownBlock \/ ∃ k,(κ a3 (acc.length+X.due.length) c3).ownBlock=A k/\ι.heap.size<=k)/\Lw q v.ownBlock ι V) m ?_;intro V P;have U:=hid P
 clear P m q0 qz T a y x z t;go_wp2;go_ret;exact⟨D,_,U.out⟩
def BA(M:Mach)(l:List Inp)(n:Int)(X:Mach)(a:Int)(acc:List Dd):Prop :=
 (a≠0/\X=aD/\acc=[]/\(a=jz M l n \/ (jz M l n=0/\19000<M.b.f))) \/
 (a=0/\jz M l n=0/\M.fit/\InR M l/\X=M.aft l n.toNat /\ ∃ c:List Nat,Way M l n.toNat c n.toNat/\acc=(c.map (λi=>(M.aft l i).due)).flatten)
inductive TPost (M : Mach) (l : List Inp) (n : Int) (w : u) (e : jf) (w' : u) : Prop
 | mk (vl:π) (X:Mach) (SX:Sl) (er:Int) (acc:List Dd) (h:e=μ (Ψ #[vl,ac (υ X SX).toArray,J Q er])) (h2:BA M l n X er acc) (h3:w'.ownsRow w.heap.size 78 4 vl acc.length (lE acc)) (h4:cf w' SX X) (h5:Below w.heap.size w w')
structure TB (w w1 : u) (vl : π) (acc : List Dd) (X : Mach) (SX : Sl) (ι : u) : Prop where
 low:Below w.heap.size w ι
 rb:Bx ι (w.heap.size+1) (υ aD aP)
 lg:Bx ι (w.heap.size+2) [vl]
 ob:Bx ι w1.heap.size (υ X SX)
 own:ι.ownsRow (w.heap.size+3) 78 4 vl acc.length (lE acc)
 sl:cf ι SX X
 nw:gA (w.heap.size+3) SX/\w.heap.size+3<=w1.heap.size
structure TV (w : u) (L : List π) (vl : π) (acc : List Dd) (X : Mach) (SX : Sl) (ι : u) : Prop where
 low:Below w.heap.size w ι
 rb:Bx ι (w.heap.size+1) L
 own:ι.ownsRow w.heap.size 78 4 vl acc.length (lE acc)
 sl:cf ι SX X
section
variable {w w1 ι : u} {vl : π} {acc : List Dd} {X : Mach} {SX : Sl}
theorem TB.ss(h:TB w w1 vl acc X SX ι):ι.cell? ⟨w.heap.size+2,0,G⟩=A vl/\Bx ι w1.heap.size (υ X SX):=⟨h.lg.at 0 vl rfl,h.ob⟩
theorem R1.th(w1:u):(w1.alloc (χ (υ aD aP).toArray 41)).there w1.heap.size 0 75:=(Bx.new w1 (υ aD aP) 41 (b:=w1.heap.size) rfl).there 0 75 (by rw[dG];omega)
theorem TB.mk'{W:u}(h:Below w.heap.size w W)(i:Bx W (w.heap.size+1) (υ aD aP))(c:JT0 (w.heap.size+2) acc vl w1)(a:Lw (w.heap.size+2) G W w1)(j:cf w1 SX X)(g:gA W.heap.size SX)(l:W.heap.size=w.heap.size+3):TB w w1 vl acc X SX ((w1.alloc (χ (υ aD aP).toArray 41)).setCells w1.heap.size 0 (υ X SX)):=by
 have h1:=(Bx.new w1 (υ aD aP) 41 (b:=w1.heap.size) D).puts 0 (υ X SX) (by rw[dG,dG];omega);rw[mK _ _ (by rw[dG,dG])] at h1;have hb:Below w1.heap.size w1 ((w1.alloc (χ (υ aD aP).toArray 41)).setCells w1.heap.size 0 (υ X SX)):=ni (stA (aR w1) _) (ψ _) _ _;have m:=a.size;rw[l] at g;have d:Below w.heap.size w w1:=h.trans (a.below (by omega) (by omega) (λk e=>by cases e));have f:Bx w1 (w.heap.size+1) (υ aD aP):=i.same a.size (a.block _ (by omega) (by omega) (by simp));exact⟨bw d hb,f.kept hb,c.bx.kept hb,h1,jr c.own (λk e=>hb.block k (jE c.own k e).2.1),j.kept hb,g,by omega⟩
theorem TB.put{a:Mach}{S':Sl}{acc':List Dd}{v':π}(h:TB w w1 vl acc X SX ι)(c:cf ι S' a)(d:gA (w.heap.size+3) S')(b:ι.ownsRow (w.heap.size+3) 78 4 v' acc'.length (lE acc')):TV w (υ a S') v' acc' a S' (ι.setCells (w.heap.size+1) 0 (υ a S')):=by
 have h1:=h.rb.puts 0 (υ a S') (by rw[dG,dG];omega);rw[mK _ _ (by rw[dG,dG])] at h1;refine⟨ni h.low (by omega) _ _,h1,?_,c.off d (by omega) _ _⟩;have h2:=jr (w':=ι.setCells (w.heap.size+1) 0 (υ a S')) b (λk e=>ji (by have:=(jE b k e).1;omega) _ _ _);exact Ba (Ba (Ba h2))
end
theorem TB.drew{w w1 ι:u}{vl:π}{acc:List Dd}{X:Mach}{SX:Sl}(h:TB w w1 vl acc X SX ι):TB w w1 vl acc X SX ι.drew:=⟨h.low.drew,h.rb.drew,h.lg.drew,h.ob.drew,h.own,h.sl.kept (aR ι).drew,h.nw⟩
theorem TB.put'{w w1 ι:u}{vl:π}{acc:List Dd}{X:Mach}{SX:Sl}(h:TB w w1 vl acc X SX ι):TV w (υ X SX) vl acc X SX (ι.drew.setCells (w.heap.size+1) 0 (υ X SX)):=h.drew.put h.drew.sl h.nw.1 h.drew.own
theorem Wc.tend{M X:Mach}{l:List Inp}{n:Int}{t:Bool}{acc:List Dd}{a:List Nat}{j:Nat}(h1:jz M l n=0)(h2:M.fit)(h3:InR M l)(h4:Way M l n.toNat a j)(b:X=M.aft l j)(c:(t=ξ/\j=n.toNat/\acc=(a.map (λi=>(M.aft l i).due)).flatten) \/ (t=Γ/\j<n.toNat/\ξ=Γ/\acc=(a.map (λi=>(M.aft l i).due)).flatten++X.due)):(0:Int)=0/\jz M l n=0/\M.fit/\InR M l/\X=M.aft l n.toNat /\ ∃ a:List Nat,Way M l n.toNat a n.toNat/\acc=(a.map (λi=>(M.aft l i).due)).flatten:=by
 rcases c with⟨_,rfl,h⟩|⟨_,_,h,_⟩
 ·exact⟨D,h1,h2,h3,b,a,h4,h⟩
 ·cases h
theorem Wc.trace(M:Mach)(S:Sl)(v:π)(l:List Inp)(n:Int)(w:u)(hF:AF w)(hs:cf w S M)(hz:∀ j,j<5->(M.byt j).length<=9223372036854775807)(m:M.ok)(o:bP w.heap.size w v l)(p:∀ x∈l,0<=x.d/\x.d<=255)(hn:-9223372036854775808<=n/\n<=9223372036854775807):Δ ω 24 #[ac (υ M S).toArray,v,J Q n] w (TPost M l n w):=by
 have hW:Below w.heap.size w (((w.alloc (χ (υ M S).toArray 41)).alloc (χ (υ aD aP).toArray 41)).alloc (χ #[κ G 0 0] 70)):=stA (stA (stA (aR w) _) _) _;have q:=hid (((Bx.new w (υ M S) 41 (b:=w.heap.size) D).over (χ (υ aD aP).toArray 41)).over (χ #[κ G 0 0] 70));have r:=hid ((Bx.new (w.alloc (χ (υ M S).toArray 41)) (υ aD aP) 41 (b:=w.heap.size+1) (by simp)).over (χ #[κ G 0 0] 70));have s:=Bx.new ((w.alloc (χ (υ M S).toArray 41)).alloc (χ (υ aD aP).toArray 41)) [κ G 0 0] 70 (b:=w.heap.size+2) (by simp);have y:=Wc.follow M S v l n 51 (pt (w.heap.size+2) 0) (w.heap.size+2) (JT (w.heap.size+2)) (λ_=>ξ) Mach.due w _ (λ_ _=>D) (Wc.lookT (w.heap.size+2) w hF) zpd (JT.jw _) ⟨by omega,by simp⟩ ⟨_,⟨s,⟨D,aj ⟨D,D⟩⟩⟩,D⟩ hW hs hz m hF.shapes o p hn;have z:=hid y;have HW:=hid hW;clear y hW s hF hs hz m o p;go_enter func24,ntmps24;go_upto_region 3 with(first
  | (refine wpList_load_mid D 41 _ D w.heap.size 0 D (υ M S) _ q.out.c underlying41 D cn ?_)
  | (go_at_call 50;refine z.out.mono ?_;rintro e w1 ⟨X,SX,t,er,acc,g,rfl,B,⟨vl,hJ,rfl⟩,E,F,H⟩
     have HE:=hid B;have HJ:=hid hJ;have i:=hid E;have I:=hid F;have L:=hid H;clear B hJ E F H)
  | (refine wpList_store_mid D 41 _ _ D w1.heap.size 0 (υ X SX).toArray D D (R1.th w1) cn (iq _ _ (kC i.out)) ?_
     refine Pl.cutL (TB w w1 vl acc X SX) (TB.mk' HW.out r.out HJ.out I.out i.out L.out (by simp)) ?_;intro Y1 N;have a:=hid N;clear N))
 clear q r z HW i L I HJ;have B:=HE.out;unfold vn at B;rcases B with⟨he,Z,ht,hc⟩|⟨he,P,R,hR,js,j,T,Z,hbs,U⟩
 ·have HC:=hid hc
  have HNE:=hid he;clear hc HE ht Z
  go_wp2_with (refine wpList_store_mid D 41 _ _ D (w.heap.size+1) 0 (υ aD aP).toArray D D (a.out.rb.there 0 75 (by rw[dG];omega)) cn (iq _ _ vS) ?_
               refine Pl.cutL (TV w (υ aD aP) (κ G 0 0) [] aD aP) (a.out.put (Aa _) (A7 _) ⟨D,aj ⟨D,D⟩⟩) ?_;intro V W;have f:=hid W;clear W)
  refine Ξ (v:=Ψ #[κ G 0 0,ac (υ aD aP).toArray,J Q er]) ?_ D ⟨κ G 0 0,aD,aP,er,[],D,aj ⟨HNE.out,D,D,HC.out⟩,f.out.own,f.out.sl,f.out.low⟩;have l1:=run_loadVar_mid V (w.heap.size+1) 0 41 _ _ f.out.rb.c underlying41 D cn;simp only[results,results24];simp;show (aE (bL ω (bC 41 ⟨w.heap.size+1,0,G⟩) V) _)=_;rw[l1];rfl
 ·have HFE:=hid P
  have HFT:=hid R;have HR:=hid hR;have HWY:=hid T;have HX:=hid Z;have HOR:=hid U;subst he;obtain⟨a1,c1,e1⟩:=vT a.out.own;subst e1;clear P R hR T Z U hbs HE;go_wp2;refine qp (S:=λw'=>w'.cell? ⟨w.heap.size+2,0,G⟩=A (κ a1 acc.length c1)/\Bx w' w1.heap.size (υ X SX)) (st:=3) (by kernel_rfl) ?_;have hS:=a.out.drew.ss;refine kU [] 0 (λ_ k=>k.1) hS ?_;refine sf [] 1 (ac (υ X SX).toArray) D (λw' k=>ml 41 _ D w1.heap.size 0 D (υ X SX) _ k.2.c underlying41 D cn) hS ?_;refine b8 2 (λ_=>hS) ?_;refine jy 3 (λK hK=>?_);refine pH D 41 _ _ D (w.heap.size+1) 0 (υ X SX).toArray D D (a.out.drew.rb.there 0 75 (by rw[dG];omega)) cn (iq _ _ (kC a.out.sl)) ?_;refine hK.out _ _ (λh=>by simp at h) ?_;clear hK K;clear hS;refine b8 4 (λh=>by simp at h) ?_;refine pq (by kernel_rfl) ?_ _;refine Pl.cutE (TV w (υ X SX) (κ a1 acc.length c1) acc X SX) (a.out.put' ) ?_;intro V W;have f:=hid W;clear W a;go_wp2;refine Ξ (v:=Ψ #[κ a1 acc.length c1,ac (υ X SX).toArray,J Q 0]) ?_ D ⟨κ a1 acc.length c1,X,SX,0,acc,D,ao (Wc.tend HFE.out HFT.out HR.out HWY.out HX.out HOR.out),f.out.own,f.out.sl,f.out.low⟩
  have l1:=run_loadVar_mid V (w.heap.size+1) 0 41 _ _ f.out.rb.c underlying41 D cn;simp only[results,results24];simp;show (aE (bL ω (bC 41 ⟨w.heap.size+1,0,G⟩) V) _)=_;rw[l1];rfl
def bk(pc:Int)(X:Mach):Bool:=decide (X.mready<=X.clock) && decide (X.main.PC=pc) && !X.main.Waits
def JB(q:Nat)(pc:Int)(acc:List Dd)(g:Option Nat)(w:u):Prop:=acc=[]/\g=G/\Bx w q [J Y pc]
theorem JB.jw(q:Nat)(pc:Int):Jw q (JB q pc) where
 same:=by
  rintro acc g w w' ⟨rfl,rfl,h⟩ a b c;exact⟨D,D,h.same a b⟩
 q:=by
  rintro acc g w ⟨rfl,rfl,h⟩;exact h.z
 g:=by
  rintro acc g w ⟨rfl,rfl,h⟩ k e;cases e
theorem Wc.lookB(q:Nat)(pc:Int)(w0:u):∀ acc g X SX ι,JB q pc acc g ι->Below w0.heap.size w0 ι->cf ι SX X->X.fit->acc.length<=1000->Δ ω 55 #[ac (υ X SX).toArray,pt q 0] ι λe w'=>e=μ (ν (bk pc X)) /\ ∃ g',JB q pc (acc++[]) g' w'/\(g'=g \/ ∃ k,g'=A k/\ι.heap.size<=k)/\Lw q g ι w':=by
 rintro acc g X SX ι ⟨rfl,rfl,i⟩ c n o d;have f:Below ι.heap.size ι (ι.alloc (χ (υ X SX).toArray 41)):=stA (aR ι) _;have hB:=Bx.new ι (υ X SX) 41 (b:=ι.heap.size) D;have p:=hB.at 72 (J Q X.clock) D;have r:=hB.at 73 (J Q X.mready) D;have s:=hB.at 8 (J Y X.main.PC) D;have j:=hB.at 14 (ν X.main.Waits) D;have t:=hB.z;have v:=(i.kept f).at 0 (J Y pc) D;have w:=(i.kept f).z;have l:bG (∃ g',JB q pc ([]++[]) g' (ι.alloc (χ (υ X SX).toArray 41))/\(g'=(G:Option Nat) \/ ∃ k,g'=A k/\ι.heap.size<=k)/\Lw q G ι (ι.alloc (χ (υ X SX).toArray 41))):=hid ⟨G,⟨D,D,i.kept f⟩,aj D,Lw.of f⟩;have a:bG (bk pc X=(decide (X.mready<=X.clock) && decide (X.main.PC=pc) && !X.main.Waits)):=hid D;obtain⟨wt,h⟩:∃ b,b=X.main.Waits:=⟨_,D⟩
 rw[<- h] at j a;clear h hB i f c n o d;by_cases h1:X.mready<=X.clock
 ·have d1:decide (X.mready<=X.clock)=Γ:=aO h1
  by_cases h2:X.main.PC=pc
  ·have d2:decide (X.main.PC=pc)=Γ:=aO h2
   rw[d1,d2] at a;have m:(X.main.PC == pc)=Γ:=by rw[h2];simp
   clear h1 h2;cases wt;all_goals
    go_enter func55,ntmps55;go_wp2;go_ret;exact⟨by rw[a.out];rfl,l.out⟩
  ·have d2:decide (X.main.PC=pc)=ξ:=aG h2
   rw[d1,d2] at a;have m:(X.main.PC == pc)=ξ:=by simpa using h2
   clear h1 h2;go_enter func55,ntmps55;go_wp2;go_ret;exact⟨by rw[a.out];rfl,l.out⟩
 ·have d1:decide (X.mready<=X.clock)=ξ:=aG h1
  rw[d1] at a;clear h1;go_enter func55,ntmps55;go_wp2;go_ret;exact⟨by rw[a.out];rfl,l.out⟩
inductive BPost (M : Mach) (l : List Inp) (n pc : Int) (w : u) (e : jf) (w' : u) : Prop
 | mk (X:Mach) (SX:Sl) (t:Bool) (er:Int) (acc:List Dd) (h:e=μ (Ψ #[ac (υ X SX).toArray,ν t,J Q er])) (h2:vn M l n (bk pc) (λ_=>[]) X t er acc) (h4:cf w' SX X) (h5:Below w.heap.size w w')
theorem Wc.break(M:Mach)(S:Sl)(v:π)(l:List Inp)(n pc:Int)(w:u)(f:br w)(P:cf w S M)(R:∀ j,j<5->(M.byt j).length<=9223372036854775807)(h:M.ok)(i:bP w.heap.size w v l)(m:∀ x∈l,0<=x.d/\x.d<=255)(hn:-9223372036854775808<=n/\n<=9223372036854775807):Δ ω 29 #[ac (υ M S).toArray,v,J Q n,J Y pc] w (BPost M l n pc w):=by
 have E:Below w.heap.size w (((w.alloc (χ (υ M S).toArray 41)).alloc (χ #[J Y pc] 22)).alloc (χ (υ aD aP).toArray 41)):=stA (stA (stA (aR w) _) _) _;have F:=hid (((Bx.new w (υ M S) 41 (b:=w.heap.size) D).over (χ #[J Y pc] 22)).over (χ (υ aD aP).toArray 41));have o:=(Bx.new (w.alloc (χ (υ M S).toArray 41)) [J Y pc] 22 (b:=w.heap.size+1) (by simp)).over (χ (υ aD aP).toArray 41);have p:=hid (Bx.new ((w.alloc (χ (υ M S).toArray 41)).alloc (χ #[J Y pc] 22)) (υ aD aP) 41 (b:=w.heap.size+2) (by simp));have q:=Wc.follow M S v l n 55 (pt (w.heap.size+1) 0) (w.heap.size+1) (JB (w.heap.size+1) pc) (bk pc) (λ_=>[]) w _ (λ_ _=>D) (Wc.lookB (w.heap.size+1) pc w) (λ_=>bh _) (JB.jw _ _) ⟨by omega,by simp⟩ ⟨D,D,o⟩ E P R h f i m hn;have H:=hid q;have T:=hid E;clear q E o f P R h i m;go_enter func29,ntmps29;go_wp2_with (first
  | (refine wpList_load_mid D 41 _ D w.heap.size 0 D (υ M S) _ F.out.c underlying41 D cn ?_)
  | (go_at_call 50;refine H.out.mono ?_;rintro e w1 ⟨X,SX,t,U,acc,g,rfl,W,hJ,r,a,s⟩
     have HE:=hid W;have y:=hid r;have I:bG (Below w.heap.size w w1):=hid (T.out.trans (a.below T.out.size (by omega) (λk e=>by cases e)));have B:=hid (p.out.same a.size (a.block _ p.out.z (by omega) (by simp)));have L:bG (gA (w.heap.size+3) SX):=hid (s.mono (by simp));clear W r a s hJ)
  | (refine wpList_store_mid D 41 _ _ D (w.heap.size+2) 0 (υ X SX).toArray D D (B.out.there 0 75 (by rw[dG];omega)) cn (iq _ _ (kC y.out)) ?_
     refine Pl.cutL (λV=>Below w.heap.size w V/\Bx V (w.heap.size+2) (υ X SX)/\cf V SX X) ⟨ni I.out (by omega) _ _,(by have h1:=B.out.puts 0 (υ X SX) (by rw[dG,dG];omega);rw[mK _ _ (by rw[dG,dG])] at h1;exact h1),y.out.off L.out (by omega) _ _⟩ ?_;intro V Z;have N:=hid Z;clear Z))
 refine Ξ (v:=Ψ #[ac (υ X SX).toArray,ν t,J Q U]) ?_ D ⟨X,SX,t,U,acc,D,HE.out,N.out.2.2,N.out.1⟩;have l1:=run_loadVar_mid V (w.heap.size+2) 0 41 _ _ N.out.2.1.c underlying41 D cn;simp only[results,results29];simp;show (aE (bL ω (bC 41 ⟨w.heap.size+2,0,G⟩) V) _)=_;rw[l1];rfl
theorem mu.ty{B:Nat}{v:π}{l:List UInt8}{W:u}(h:mu B v l W):∀ k,v.ownBlock=A k->∃ cs,W.heap[k]?=A (χ cs 5 (0,0)):=λj e=>by
 obtain⟨k,a,h1,h2,h3,h4,b⟩:=h;rw[h1] at e;cases e;exact b
theorem OwnS.kept{B:Nat}{S:Sl}{M:Mach}{W w1:u}(h:OwnS B S M W)(hb:Below W.heap.size W w1):OwnS B S M w1:=⟨λj a=>(h.own j a).kept hb,h.dist⟩
def qR:List (Mach × Sl)->List π
 | []=>[]
 | p::l=>υ p.1 p.2++qR l
theorem zve:∀(l k:List (Mach × Sl)),qR (l++k)=qR l++qR k
 | [],k=>rfl
 | x::l,k=>by rw[cV,qR,zve l k,qR,bK]
theorem zpa:∀(l:List (Mach × Sl)) (i:Nat) (x:Mach × Sl),l[i]?=A x->∀(j:Nat) (v:π),(υ x.1 x.2)[j]?=A v->(qR l)[i*75+j]?=A v
 | [],i,x,h=>by simp at h
 | y::l,0,x,h=>λj v a=>by
  simp only[bv,aZ] at h;subst h;have b:j<(υ y.1 y.2).length:=(ay.1 a).1;rw[i8,aX,qR,bc b];exact a
 | y::l,i+1,x,h=>λj v a=>by
  rw[bN] at h;have:=zpa l i x h j v a;rw[qR,aY (by rw[dG];omega),dG,show (i+1)*75+j-75=i*75+j by omega];exact this
theorem zvf(M:Mach)(S:Sl)(w:u):(gx 73 1 #[(0,ac (υ M S).toArray)]).run ω w=.ok (κ (A ⟨w.heap.size,0,G⟩) 1 1) (w.alloc (χ (υ M S).toArray 41)):=by kernel_rfl
section
variable {F : Gx} {N ob : Nat} {vl vs : π} {w w0 W W1 W2 W3 : u} {s : Bst} {ln : List Lin} {sm : List UInt8} {k k' : Cs} {ps : List (Mach × Sl)} {vps : π} {L : List π}
theorem GC.grew{t:aJ}{z m:Nat}{o:π}{xs:List π}(d:GK F N ob)(h:GC F N ob vl vs W s ln sm)(c:W.ownsRow N t z o m xs)(g:t≠104/\t≠47/\t≠68/\t≠5)(a:W.grownBy W3 o.ownBlock):GC F N ob vl vs W3 s ln sm:=by
 obtain⟨r,w,⟨v,i⟩,b,p,q⟩:=h;have l:ob<W.heap.size:=(aa.1 b).1;have hB:=d.B;have hb:Below F.B W W3:=(bq F.B W).grown a i.big (λj e=>ax hB (jE c j e).1);refine⟨r,w.of_blocks (hb.block _ d.fx.1) (hb.block _ d.fx.2.1) (hb.block _ d.fx.2.2),⟨v,i.of_same a.size (λk n x=>?_) (λk y=>?_)⟩,(a.block ob l (λe=>mL c b g.2.1 e.symm)).trans b,jr p (λj e=>?_),jr q (λj e=>?_)⟩
 ·have E:=d.all k x
  exact a.block k n (λe=>by have:=(jE c k e.symm).1;omega)
 ·obtain⟨cs,fr,e⟩:=i.wty k y
  exact a.block k (aa.1 e).1 (λf=>mL c e g.1 f.symm)
 ·obtain⟨_,h2,cs,h3⟩:=jE p j e
  exact a.block j h2 (λf=>mL c h3 g.2.2.1 f.symm)
 ·obtain⟨_,h2,cs,h3⟩:=jE q j e
  exact a.block j h2 (λf=>mL c h3 g.2.2.2 f.symm)
structure Wl (F : Gx) (N ob : Nat) (w : u) (L : List π) (k : Cs) (ps : List (Mach × Sl)) (vps : π) (W : u) : Prop where
 low:Below w.heap.size w W
 c:∃ vl vs,GC F N ob vl vs W k.s k.ln k.sm
 own:W.ownsRow N 41 75 vps ps.length (qR ps)
 cp:∀ p∈ps,cf W p.2 p.1
 kp:∀ p∈ps,∀ j,j<5->∀ kb,(p.2.get j).ownBlock=A kb->N<=kb/\(∃ cs,W.heap[kb]?=A (χ cs 5 (0,0))) /\ ∀ vs,W.cell? ⟨ob,1,G⟩=A vs->vs.ownBlock≠A kb
 rb:Bx W (w.heap.size+1) L
 z:w.heap.size+2<=F.B
 ft:∀ p∈ps,p.1.fit
theorem Wl.kept(h:Wl F N ob w L k ps vps W)(hb:Below W.heap.size W W1):Wl F N ob w L k ps vps W1:=by
 obtain⟨vl,vs,hc⟩:=h.c;refine⟨bw h.low hb,⟨vl,vs,hc.kept hb⟩,jr h.own (λj e=>hb.block j (jE h.own j e).2.1),λp hp=>(h.cp p hp).kept hb,λp hp j b kb e=>?_,h.rb.kept hb,h.z,h.ft⟩;obtain⟨g1,⟨cs,a⟩,g3⟩:=h.kp p hp j b kb e;exact⟨g1,⟨cs,(hb.block kb (aa.1 a).1).trans a⟩,λθ d=>g3 θ (by rw[<- d];exact(hb.cell (p:=⟨ob,1,G⟩) hc.lt).symm)⟩
theorem Wl.clock{vl' vs':π}(t:GK F N ob)(h:Wl F N ob w L k ps vps W)(f:GV F N ob vl' vs' W k'.s k'.ln k'.sm W1):Wl F N ob w L k' ps vps W1:=by
 obtain⟨vl,vs,hc⟩:=h.c;have g:=Lib.cell_of_heap hc.ob 0;have l:=Lib.cell_of_heap hc.ob 1;have hB:=t.B;have r:∀ kb,vps.ownBlock=A kb->Kpt N ob W kb:=λkb e=>by
  obtain⟨g1,n,cs,g3⟩:=jE h.own kb e;refine⟨g1,⟨cs,_,_,g3,by decide,by decide,by decide⟩,λθ d=>?_,λθ d=>?_⟩
  ·rw[g] at d;cases d;exact mL hc.ln g3 (by decide)
  ·rw[l] at d;cases d;exact mL hc.sm g3 (by decide)
 have o:∀ p∈ps,∀ j,j<5->∀ kb,(p.2.get j).ownBlock=A kb->Kpt N ob W kb:=λp hp j i kb e=>by
  obtain⟨g1,⟨cs,n⟩,g3⟩:=h.kp p hp j i kb e;refine⟨g1,⟨cs,_,_,n,by decide,by decide,by decide⟩,λθ d=>?_,g3⟩;rw[g] at d;cases d;exact mL hc.ln n (by decide)
 refine⟨h.low.trans (f.b.mono (by have:=h.z;omega)),⟨vl',vs',f.c⟩,jr h.own (λj e=>(f.q j (r j e)).1),λp hp=>(h.cp p hp).same f.b.size (λj i a m c e x=>(f.q _ (o p hp j i a.block (by rw[e];rfl))).1),λp hp j i kb e=>?_,h.rb.same f.b.size (f.b.block _ (by have:=h.z;omega)),h.z,h.ft⟩;obtain⟨g1,⟨cs,n⟩,g3⟩:=h.kp p hp j i kb e;obtain⟨q0,q1,v⟩:=f.q kb (o p hp j i kb e);exact⟨g1,⟨cs,q0.trans n⟩,λθ d=>by rw[Lib.cell_of_heap f.c.ob 1] at d;cases d;exact v⟩
theorem Wl.saw{X:Mach}{S1:Sl}{g:π}(x:GK F N ob)(h:Wl F N ob w L k ps vps W)(hb:Below W.heap.size W W1)(H:OwnS (W.heap.size+2) S1 X W1)(V:N<=W.heap.size)(y:X.fit)
 (i:(W1.alloc (χ (υ X S1).toArray 41)).grownBy W3 vps.ownBlock) (I:W3.ownsRow N 41 75 g (ps.length+1) (qR ps++υ X S1)):Wl F N ob w L k (ps++[(X,S1)]) g W3:=by
 have l:Below W.heap.size W (W1.alloc (χ (υ X S1).toArray 41)):=bw hb (stA (aR W1) _);have h2:=h.kept l;have d:=H.kept (stA (aR W1) (χ (υ X S1).toArray 41));obtain⟨M,r,n⟩:=h.c;obtain⟨vl,vs,hc⟩:=h2.c;have P:=l.size;have b:∀ θ,W3.cell? ⟨ob,1,G⟩=A θ->θ=vs/\θ=r:=λθ q=>by
  have e1:=Lib.cell_of_heap ((i.block ob hc.lt (λe=>mL h2.own hc.ob (by decide) e.symm)).trans hc.ob) 1;rw[e1] at q;have e2:=l.cell (p:=⟨ob,1,G⟩) n.lt;rw[Lib.cell_of_heap n.ob 1,Lib.cell_of_heap hc.ob 1] at e2;have e3:vs=θ:=by cases q;rfl
  have e4:vs=r:=by cases e2;rfl
  exact⟨e3.symm,by rw[<- e3,e4]⟩
 have f:∀ kb:Nat,(∃ cs:Array π,(W1.alloc (χ (υ X S1).toArray 41)).heap[kb]?=A (χ cs 5 (0,0)))->W3.heap[kb]?=(W1.alloc (χ (υ X S1).toArray 41)).heap[kb]?:=λkb ⟨cs,e⟩=>i.block kb (aa.1 e).1 (λv=>mL h2.own e (by decide) v.symm)
 have R:N<=w.heap.size+2 \/ w.heap.size+2<=N:=by omega
 have s:Below w.heap.size w W3:=h2.low.trans ((bq w.heap.size _).grown i h2.low.size (λj e=>by have:=(jE h2.own j e).1;have:=x.B;have:=h.z;omega));have E:qR (ps++[(X,S1)])=qR ps++υ X S1:=by rw[zve];simp[qR]
 refine⟨s,⟨vl,vs,hc.grew x h2.own ⟨by decide,by decide,by decide,by decide⟩ i⟩,by rw[az,E];exact I,λp hp=>?_,λp hp j o kb e=>?_,h2.rb.same i.size (i.block _ h2.rb.z (λe=>by have:=(jE h2.own _ e.symm).1;have:=x.B;have:=h.z;omega)),h.z,λp hp=>(cO.1 hp).elim (h.ft p) (λe=>by simp only[bp,cz,gC] at e;subst e;exact y)⟩
 ·rcases cO.1 hp with hp|hp
  ·exact(h2.cp p hp).same i.size (λj o a m c e T=>f _ (h2.kp p hp j o a.block (by rw[e];rfl)).2.1)
  ·simp only[bp,cz,gC] at hp
   subst hp;exact d.slAt.same i.size (λj o a m c e T=>f _ ((d.own j o).ty a.block (by rw[e];rfl)))
 ·rcases cO.1 hp with hp|hp
  ·obtain⟨g1,⟨cs,t⟩,g3⟩:=h2.kp p hp j o kb e
   exact⟨g1,⟨cs,(f kb ⟨cs,t⟩).trans t⟩,λθ q=>by rw[(b θ q).1];exact g3 vs (Lib.cell_of_heap hc.ob 1)⟩
  ·simp only[bp,cz,gC] at hp
   subst hp;obtain⟨cs,t⟩:=(d.own j o).ty kb e;have U:=(d.own j o).lt kb e;refine⟨by omega,⟨cs,(f kb ⟨cs,t⟩).trans t⟩,λθ q v=>?_⟩;rw[(b θ q).2] at v;have:=(jE n.sm kb v).2.1;omega
end
def jK:List UInt8:=[0,6,0,0,0,0,121,31,216,0]
def yO:C.Cpu:=⟨[0,0,0,0,0,0,0,0],6,ξ,ξ,ξ,ξ,ξ,ξ⟩
def vp:C.Cpu:=⟨[0,65535,0,0,0,0,0,0],8,ξ,Γ,ξ,ξ,ξ,ξ⟩
def BB:C.Cpu:=⟨[0,65535,0,0,0,0,0,0],10,ξ,Γ,ξ,ξ,ξ,Γ⟩
section
variable (main aux : C.Cpu) (arom ram own video : List UInt8) (p0 p1 : Pd) (t : TM) (s : Sd) (b : Bem) (fr tt : Int) (granted held : Bool) (m0 m1 : Int) (rung : Bool) (clock mready aready : Int) (l : List Wt)
theorem zxD:C.order bT yO ⟨⟨main,aux,jK,arom,ram,own,video,p0,p1,t,s,b,fr,tt,granted,held,m0,m1,rung,clock,mready,aready⟩,0,l⟩=⟨vp,⟨⟨main,aux,jK,arom,ram,own,video,p0,p1,t,s,b,fr,tt,granted,held,m0,m1,rung,clock,mready,aready⟩,0,l⟩,1⟩:=by kernel_rfl
theorem zxE:C.order bT vp ⟨⟨main,aux,jK,arom,ram,own,video,p0,p1,t,s,b,fr,tt,granted,held,m0,m1,rung,clock,mready,aready⟩,0,l⟩=⟨BB,⟨⟨main,aux,jK,arom,ram,own,video,p0,p1,t,s,b,fr,tt,granted,held,m0,m1,rung,clock,mready,aready⟩,0,l⟩,1⟩:=by kernel_rfl
end
structure Wkm (M : Mach) (c : C.Cpu) (clock mready : Int) : Prop where
 rom:M.mrom=jK
 held:M.held=Γ
 main:M.main=c
 clock:M.clock=clock
 ready:M.mready=mready
theorem zfY{k:Cs}{c e:C.Cpu}{d r f:Int}(h:Wkm k.s.M c d r)(b:k.co=[])(a:Wkm (Bst.stepMain k.s).M e d f):Wkm k.clock.s.M e (d+1) f/\k.clock.co=[]:=by
 have g:k.s.M.pressed k.co=k.s.M:=by rw[b];rfl
 have i:(Bst.stepMain k.s).stepAux=Bst.stepMain k.s:=by
  unfold Bst.stepAux;rw[am (aj a.held)]
 have j:k.now.s=Bst.stepMain k.s:=by
  show (Bst.stepMain ⟨k.s.M.pressed k.co,k.s.n,k.s.l⟩).stepAux=_;rw[g,i]
 have m:k.clock.s.M=(Bst.stepMain k.s).M.goOn:=by show k.now.s.M.goOn=_;rw[j]
 refine⟨?_,by show k.s.M.coming k.co=[];rw[b];rfl⟩;rw[m];exact⟨a.rom,a.held,a.main,by show (Bst.stepMain k.s).M.clock+1=_;rw[a.clock],a.ready⟩
theorem zvg{s:Bst}{c:C.Cpu}{a r:Int}(h:Wkm s.M c a r)(b:a<r):Wkm (Bst.stepMain s).M c a r:=by
 unfold Bst.stepMain;rw[am (by rw[h.clock,h.ready];exact b)];exact h
theorem xW{s:Bst}{c d:C.Cpu}{a r n:Int}(h:Wkm s.M c a r)(e:¬ a<r)(g:c.Waits=ξ)(i:c.May=ξ)
 (j:∀(main aux:C.Cpu) (arom ram own video:List UInt8) (p0 p1:Pd) (t:TM) (s:Sd) (b:Bem) (fr tt:Int) (granted held:Bool) (m0 m1:Int) (rung:Bool) (clock mready aready:Int) (l:List Wt),
   C.order bT c ⟨⟨main,aux,jK,arom,ram,own,video,p0,p1,t,s,b,fr,tt,granted,held,m0,m1,rung,clock,mready,aready⟩,0,l⟩=⟨d,⟨⟨main,aux,jK,arom,ram,own,video,p0,p1,t,s,b,fr,tt,granted,held,m0,m1,rung,clock,mready,aready⟩,0,l⟩,n⟩):Wkm (Bst.stepMain s).M d a (a+3*n):=by
 unfold Bst.stepMain;rw[ae (by rw[h.clock,h.ready];exact e)];obtain⟨⟨main,aux,mrom,arom,ram,own,video,p0,p1,t,k,b,fr,tt,granted,held,m0,m1,rung,clock,mready,aready⟩,m,l⟩:=s;obtain⟨h1,h2,h3,h4,f⟩:=h;dsimp only at h1 h2 h3 h4 f e ⊢;subst h1 h2 h3 h4 f;rw[zqh _ _ _ g i,j main aux arom ram own video p0 p1 t k b fr tt granted Γ m0 m1 rung clock mready aready l];exact⟨D,D,D,D,by show clock+3*n+0=_;omega⟩
def oT:Mach:=dv jK []
def yB:Cs:=⟨⟨oT,0,[]⟩,[],[],[]⟩
theorem wk0:Wkm (oT.aft [] 0) yO 0 0:=⟨D,D,by show gM ((dr jK []).lookM 0) ((dr jK []).lookM 1)=yO;decide +kernel,D,D⟩
theorem rL:∀ j,(yB.clocks j).co=[]
 | 0=>rfl
 | j+1=>by
  show (yB.clocks j).s.M.coming (yB.clocks j).co=[]
  rw[rL j];rfl
theorem wk1:Wkm (oT.aft [] 1) vp 1 3:=(zfY (k:=yB.clocks 0) wk0 (rL 0) (xW (n:=1) wk0 (by decide) D D (λ_ _ _ _ _ _ _ _ _ _ _ _ _ _ _ _ _ _ _ _ _ _=>zxD ..))).1
theorem wk2:Wkm (oT.aft [] 2) vp 2 3:=(zfY (k:=yB.clocks 1) wk1 (rL 1) (zvg wk1 (by decide))).1
theorem yC:Wkm (oT.aft [] 3) vp 3 3:=(zfY (k:=yB.clocks 2) wk2 (rL 2) (zvg wk2 (by decide))).1
theorem wk4:Wkm (oT.aft [] 4) BB 4 6:=(zfY (k:=yB.clocks 3) yC (rL 3) (xW (n:=1) yC (by decide) D D (λ_ _ _ _ _ _ _ _ _ _ _ _ _ _ _ _ _ _ _ _ _ _=>zxE ..))).1
theorem Wkm.nx{j k:Nat}{c:C.Cpu}{a r:Int}(h:Wkm (oT.aft [] j) c a r)(e:(min (max r (a+1)) (0+(5:Nat))-0).toNat=k):wnx oT [] 5 j=k:=by
 unfold wnx Mach.next;rw[h.held,h.clock,h.ready,am D];exact e
theorem Wkm.no{M:Mach}{c:C.Cpu}{a r:Int}(h:Wkm M c a r)(e:a<r):M.due=[]:=by
 have h1:M.mdue=ξ:=by unfold Mach.mdue;rw[h.clock,h.ready,aG (by omega)];rfl
 have h2:M.adue=ξ:=by unfold Mach.adue;rw[h.held];rfl
 unfold Mach.due Mach.mdid Mach.adid;rw[h1,h2];rfl
theorem Wkm.yes{M:Mach}{c:C.Cpu}{a r:Int}(h:Wkm M c a r)(e:r<=a)(b:c.Waits=ξ)(d:c.May=ξ):M.due=[⟨a,ξ,c.PC,cZ jK c.PC.toNat⟩]:=by
 have h1:M.mdue=Γ:=by unfold Mach.mdue;rw[h.clock,h.ready,aO e,h.main,b,d];rfl
 have h2:M.adue=ξ:=by unfold Mach.adue;rw[h.held];rfl
 unfold Mach.due Mach.mdid Mach.adid;rw[h1,h2,h.clock,h.main,h.rom];rfl
theorem zyi{a:List Nat}{j:Nat}(h:Way oT [] 5 a j):(a=[]/\j=0) \/ (a=[0]/\j=1) \/ (a=[0,1]/\j=3) \/ (a=[0,1,3]/\j=4) \/ (a=[0,1,3,4]/\j=5):=by
 induction h with
 | nil=>exact aj ⟨D,D⟩
 | cons _ b c =>
  rcases c with⟨rfl,rfl⟩|⟨rfl,rfl⟩|⟨rfl,rfl⟩|⟨rfl,rfl⟩|⟨rfl,rfl⟩
  ·exact ao (aj ⟨D,wk0.nx (by decide)⟩)
  ·exact ao (ao (aj ⟨D,wk1.nx (by decide)⟩))
  ·exact ao (ao (ao (aj ⟨D,yC.nx (by decide)⟩)))
  ·exact ao (ao (ao (ao ⟨D,wk4.nx (by decide)⟩)))
  ·omega
def BC:List UInt8:=[97,100,100,105,32,114,49,44,32,45,49]
def BD:List UInt8:=[104,108,116]
def rC:List Dd:=[⟨0,ξ,6,BC⟩,⟨3,ξ,8,BD⟩]
theorem CL:cZ jK 6=BC:=by decide +kernel
theorem CM:cZ jK 8=BD:=by decide +kernel
theorem zBv{a:List Nat}(h:Way oT [] 5 a 5):(a.map (λi=>(oT.aft [] i).due)).flatten=rC:=by
 have b:a=[0,1,3,4]:=by
  rcases zyi h with⟨_,e⟩|⟨_,e⟩|⟨_,e⟩|⟨_,e⟩|⟨e,_⟩
  ·cases e
  ·cases e
  ·cases e
  ·cases e
  ·exact e
 subst b;simp only[cI,dQ,wk0.yes (by decide) D D,wk1.no (by decide),yC.yes (by decide) D D,wk4.no (by decide)];show [(⟨0,ξ,6,cZ jK 6⟩:Dd),⟨3,ξ,8,cZ jK 8⟩]=rC;rw[CL,CM];rfl
theorem zBw:bk 8 (oT.aft [] 3)=Γ:=by unfold bk;rw[yC.main,yC.clock,yC.ready];rfl
theorem zyj:jz oT [] 5=0:=by
 have a:oT.chk=0:=by decide +kernel
 have b:bS oT [] 0=0:=zfV a D ⟨by decide,by decide,by show (0:Int)+0<=200000;decide⟩;unfold jz;rw[b,am D,am ⟨by decide,by decide,by show (0:Int)+5<=200000;decide⟩]
theorem zzQ{X:Mach}{a:Int}{acc:List Dd}(h:BA oT [] 5 X a acc):a=0/\acc=rC:=by
 rcases h with⟨h1,_,_,h|⟨_,h⟩⟩|⟨h1,_,_,_,_,d,b,c⟩
 ·rw[zyj] at h;exact absurd h h1
 ·exact absurd h (by show ¬ 19000<(0:Int);decide)
 ·exact⟨h1,c.trans (zBv b)⟩
theorem zzR{X:Mach}{t:Bool}{b:Int}{acc:List Dd}(h:vn oT [] 5 (bk 8) (λ_=>[]) X t b acc):b=0/\t=Γ:=by
 rcases h with⟨h1,_,_,h|⟨_,h⟩⟩|⟨h1,_,_,_,g,j,c,i,hb,h⟩
 ·rw[zyj] at h;exact absurd h h1
 ·exact absurd h (by show ¬ 19000<(0:Int);decide)
 ·refine⟨h1,?_⟩
  rcases h with⟨_,d,_⟩|⟨f,_⟩
  ·have a:j=5:=d
   subst a;rcases zyi c with⟨_,e⟩|⟨_,e⟩|⟨_,e⟩|⟨_,e⟩|⟨e,_⟩
   ·cases e
   ·cases e
   ·cases e
   ·cases e
   ·have:=hb 3 (by rw[e];simp)
    rw[zBw] at this;cases this
  ·exact f
theorem zmC:(Tryz.prog.info? 78).map (·.size)=A 4:=by kernel_rfl
theorem zvh(c p:Int)(a:Bool)(t:ByteArray)(w:u):(binOp .eql 78 (ac #[J Q c,ν a,J Y p,Ω t]) (ac #[J Q c,ν a,J Y p,Ω t])).run ω w=.ok (ν Γ) w:=by
 have u3:=underlying3;have x3:=isAgg3;have z3:=sizeOf3;have u4:=underlying4;have d:=isAgg4;have z4:=sizeOf4;have e:=underlying22;have f:=isAgg22;have z5:=sizeOf22;have g:=underlying9;have h:=isAgg9;have i:=sizeOf9;have b:Tryz.prog.underlying 78=A (.struct (Tryz.prog.fieldsOf 78)):=by kernel_rfl
 have hp:Tryz.prog.stoodInHeld 78=ξ:=by kernel_rfl
 rw[dK,show (10000:Nat)=9999+1 from D,eI w 9999 78 _ _ b hp];simp only[Program.fieldsOf,underlying78];go_simp
theorem zvi(x:Dd)(w:u):(binOp .neq 78 (ac (ib x).toArray) (ac (ib x).toArray)).run ω w=.ok (ν ξ) w:=zgz (zvh x.c x.pc x.a (aT x.t) w)
theorem zpf:∀(l:List Dd) (i:Nat) (x:Dd),l[i]?=A x->∀(j:Nat) (v:π),(ib x)[j]?=A v->(lE l)[i*4+j]?=A v
 | [],i,x,h=>by simp at h
 | y::l,0,x,h=>λj v a=>by
  simp only[bv,aZ] at h;subst h;rw[i8,aX];show (ib y++lE l)[j]?=_;rw[bc (ay.1 a).1];exact a
 | y::l,i+1,x,h=>λj v a=>by
  rw[bN] at h;have:=zpf l i x h j v a;show (ib y++lE l)[(i+1)*4+j]?=_;rw[aY (by simp[ib];omega),show (ib y).length=4 from D,show (i+1)*4+j-4=i*4+j by omega];exact this
theorem Wc.sameDid(f v2:π)(l:List Dd)(w:u)(h1:kO w f l.length 4 (lE l))(h2:kO w v2 l.length 4 (lE l))(t:l.length<=1000000):Δ ω 28 #[f,v2] w λe w'=>e=μ (ν Γ)/\Below w.heap.size w w':=by
 obtain⟨a1,k1,e1⟩:=h1.len;obtain⟨a2,k2,e2⟩:=h2.len;subst e1 e2;have m:=hid h1;have n:=hid h2;clear h1 h2;go_enter func28,ntmps28;go_wp2;go_loopw [13] (λi wr=>∃ j:Nat,j<=l.length/\i=J Q j/\Below w.heap.size w wr) (λi _=>l.length-(intOf i).toNat)
 case atStart=>exact⟨0,bh _,D,aR w⟩
 case round =>
  obtain⟨j,v,rfl,hb⟩:=hrel;have g:=hid hb;by_cases b:j<l.length
  ·have h:(j:Int)<l.length:=by omega
   have o:(0:Int)<=j:=by omega
   have p:(j:Int)<1000000:=by omega
   obtain⟨x,d⟩:∃ x,l[j]?=A x:=⟨_,aq b⟩
   obtain⟨g1,o1,c1,q1,y,r1⟩:=(m.out.kept hb).range b (zpf l j x d);obtain⟨k,o2,c2,q,z2,r2⟩:=(n.out.kept hb).range b (zpf l j x d);cases q1;cases q;have r:=zvi x;clear hb d;go_upto_region 6 with fail
   refine wp_region_held_drew (S:=λw'=>w'.rangeAt g1 (o1+j*4) (ib x)/\w'.rangeAt k (o2+j*4) (ib x)) (by kernel_rfl) ⟨r1,r2⟩ ?_;intro a;refine dy 0 ⟨A 16,_,_,_,_,G⟩ a ?_;simp only[ag,xA,xB,xC];refine dy 1 ⟨A 17,_,_,_,_,G⟩ a ?_;simp only[ag,xA,xB,xC];refine dy 2 ⟨A 18,_,_,_,_,G⟩ a ?_;simp only[ag,xA,xB,xC];refine jW 3 (ac (ib x).toArray) D (λw' c=>ml 78 _ D g1 (o1+j*4) D (ib x) _ c.1 underlying78 D zmC) a ?_;refine dy 4 ⟨A 20,_,_,_,_,G⟩ a ?_;simp only[ag,xA,xB,xC];refine dy 5 ⟨A 21,_,_,_,_,G⟩ a ?_;simp only[ag,xA,xB,xC];refine dy 6 ⟨A 22,_,_,_,_,G⟩ a ?_;simp only[ag,xA,xB,xC];refine jW 7 (ac (ib x).toArray) D (λw' c=>ml 78 _ D k (o2+j*4) D (ib x) _ c.2 underlying78 D zmC) a ?_;refine dy 8 ⟨A 24,_,_,_,_,G⟩ a ?_;simp only[ag,xA,xB,xC];refine wpAnyH_done (by kernel_rfl) ?_ _;clear a r1 r2;go_wp2;exact⟨⟨j+1,by omega,by simp,g.out.drew⟩,by simp[intOf];omega⟩
  ·have s:¬ (j:Int)<l.length:=by omega
   clear hb;go_wp2;go_ret;exact⟨D,g.out⟩
theorem zsk:(Tryz.prog.info? 41).map (λi=>(i.zero,i.size,decide (i.bytes<=10000)))=A (A (ac (υ aD aP).toArray),75,Γ):=by kernel_rfl
theorem zxA{M:Mach}{S:Sl}(a:S.isSl):∀ θ∈υ M S,θ.oneCell'=Γ:=λθ b=>by
 have h:=iq M S a;rw[List.all_toArray] at h;exact cx.1 h θ b
theorem zmB{ops:Array cG}{rest:List cG}{o:cG}{a:Act}{w:u}{η:Exit->Act->u->Prop}(b:o.guard=G)(x:dk)(c:o.op=.buildSlice 73 1 #[(0,x)])(M:Mach)(S:Sl)(d:a.eval x=ac (υ M S).toArray)
 (h:dg ω ops η rest (a.put o.dst (κ (A ⟨w.heap.size,0,G⟩) 1 1)) (w.alloc (χ (υ M S).toArray 41))):dg ω ops η (o::rest) a w:=by
 refine gj b λK e=>?_
 have f:=zvf M S w;generalize υ M S=L at *;unfold Oper.wp;simp[execOp,c,d,f,aE];exact e _ _ h
theorem zpb{ops:Array cG}{rest:List cG}{o:cG}{a:Act}{w:u}{η:Exit->Act->u->Prop}{B n:Nat}{v:π}{xs:List π}{M:Mach}{S:Sl}(d:o.guard=G)(s x:dk)(f:o.op=.call { callee:=.builtin .append,args:=#[s,x],argTypes:=#[73,73] })(k:a.eval s=v)(c:w.ownsRow B 41 75 v n xs)(g:Nat)(l:a.eval x=κ (A ⟨g,0,G⟩) 1 1)(e:Bx w g (υ M S))(m:S.isSl)(r:n<=1000)(hB:B<=w.heap.size)
 (h:∀ g' b w',w'.ownsRow B 41 75 (κ (A ⟨g',0,G⟩) (n+1) b) (n+1) (xs++υ M S)->w.grownBy w' v.ownBlock->dg ω ops η rest (a.put o.dst (κ (A ⟨g',0,G⟩) (n+1) b)) w'):dg ω ops η (o::rest) a w:=by
 have hi:=zsk;generalize p:Tryz.prog.info? 41=i at hi;cases i with
 | none=>cases hi
 | some i0 =>
  simp only[iG,aZ,gv,cu] at hi;obtain⟨h1,h2,h3⟩:=hi;refine wpList_append_lies _ d s x _ f B 41 i0 _ 75 i0.bytes underlying73 p h1 h2 D (by rfl) (by omega) v n xs k c ⟨g,0,G⟩ 1 1 (υ M S) l (by rw[dG]) (λj θ q=>?_) (zxA m) (by omega) (by unfold dI;omega) (ax (qd (show n+1<=1001 by omega) h3) (by decide)) hB w.heap.size D (λg' b w' a1 a2 _ _=>h g' b w' a1 a2);rw[addr_add,aX];exact e.at j θ q
theorem zkx{b:Nat}{w:u}{c:Int}(h:w.cell? ⟨b,72,G⟩=A (J Q c)):pU b w=c.toNat:=by
 unfold pU;rw[h]
section
variable {F : Gx} {N ob : Nat} {w w0 W W1 W2 W3 : u} {k k' : Cs} {ps : List (Mach × Sl)} {vps : π} {L : List π} {inp : List Inp}
theorem Wl.start(hc:GC F N ob (κ G 0 0) (κ G 0 0) W k.s k.ln k.sm)(a:Below w.heap.size w W)(b:Bx W (w.heap.size+1) L)(c:w.heap.size+2<=F.B):Wl F N ob w L k [] (κ G 0 0) W :=
 ⟨a,⟨_,_,hc⟩,eU _ _ _ _,λp hp=>(by cases hp),λp hp=>(by cases hp),b,c,λp hp=>(by cases hp)⟩
structure Wf (F : Gx) (w : u) (L : List π) (X : Mach) (ps : List (Mach × Sl)) (vps : π) (ι : u) : Prop where
 low:Below w.heap.size w ι
 rb:Bx ι (w.heap.size+1) L
 row:kO ι vps ps.length 75 (qR ps)
 cp:∀ p∈ps,cf ι p.2 p.1
 sl:cf ι F.S X
 g:ι.rangeAt F.g 0 (υ X F.S)
 ft:∀ p∈ps,p.1.fit
theorem Wl.wf(h:Wl F N ob w L k ps vps W):Wf F w L k.s.M ps vps W:=by
 obtain⟨vl,vs,hc⟩:=h.c;obtain⟨v,a⟩:=hc.gd;exact⟨h.low,h.rb,vU h.own,h.cp,a.slAt,a.row,h.ft⟩
theorem Wl.fin(i:GK F N ob)(d:∀ k,F.all k->F.B<=k)(h:Wl F N ob w (υ aD aP) k ps vps W):Wf F w (υ k.s.M F.S) k.s.M ps vps (W.setCells (w.heap.size+1) 0 (υ k.s.M F.S)):=by
 obtain⟨vl,vs,hc⟩:=h.c;obtain⟨v,g⟩:=hc.gd;have q:=h.z;have hB:=i.B;have h1:=h.rb.puts 0 (υ k.s.M F.S) (by rw[dG,dG];omega);rw[mK _ _ (by rw[dG,dG])] at h1;have b:Gd F (W.setCells (w.heap.size+1) 0 (υ k.s.M F.S)) k.s.M ⟨k.s.n,k.s.l,v⟩:=g.of_same (cq (pN _ _ _ _).symm) (λj _ o=>ji (by have:=d j o;omega) _ _ _) (λj f=>ji (by have:=(jE g.ws j f).1;omega) _ _ _)
 exact⟨ni h.low (by omega) _ _,h1,vU (jr h.own (λj e=>ji (by have:=(jE h.own j e).1;omega) _ _ _)),
  λp hp=>(h.cp p hp).same (cq (pN _ _ _ _).symm) (λj f a m c e r=>ji (by have:=(h.kp p hp j f a.block (by rw[e];rfl)).1;omega) _ _ _),b.slAt,b.row,h.ft⟩
theorem Wl.at(h:Wl F N ob w L k ps vps W)(i:Nat)(θ:π)(hi:i<75)(e:(υ k.s.M F.S)[i]?=A θ):W.cell? ⟨F.g,i,G⟩=A θ:=by
 obtain⟨vl,vs,hc⟩:=h.c;exact hc.at i θ hi e
theorem Wl.gz(h:Wl F N ob w L k ps vps W):F.g<W.heap.size:=by
 obtain⟨vl,vs,hc⟩:=h.c;exact hc.gz.1
theorem Wl.nz(a:GK F N ob)(h:Wl F N ob w L k ps vps W):N<=W.heap.size:=by
 obtain⟨vl,vs,hc⟩:=h.c;have:=hc.lt;have:=a.ob;omega
inductive LPost (M : Mach) (inp : List Inp) (N : Nat) (w : u) (e : jf) (w' : u) : Prop
 | mk (vps:π) (ps:List (Mach × Sl)) (SX:Sl) (js:List Nat) (h1:e=μ (Ψ #[vps,ac (υ (M.aft inp N) SX).toArray])) (h2:Way M inp N js N) (h3:ps.map Prod.fst=js.map (M.aft inp)) (h4:kO w' vps ps.length 75 (qR ps)) (h5:∀ p∈ps,cf w' p.2 p.1) (h6:cf w' SX (M.aft inp N)) (h7:Below w.heap.size w w') (h8:∀ p∈ps,p.1.fit)
end
theorem Wt.looks(M:Mach)(S:Sl)(v:π)(inp:List Inp)(N:Nat)(w:u)(hs:cf w S M)(hsz:∀ j,j<5->(M.byt j).length<=140737488355328)(hF:Facts w)(hg:1<w.heap.size/\0<w.heap.size/\2<w.heap.size)(hin:bP w.heap.size w v inp)(hf:M.fit)(hR:InR M inp)(h19:M.b.f<=19000)(hN:N<=500/\M.clock+N<=200000):Δ ω 26 #[ac (υ M S).toArray,v,J Q N] w (LPost M inp N w):=by
 obtain⟨k0,o⟩:∃ k0:Cs,k0=⟨⟨M,0,[]⟩,inp,[],[]⟩:=⟨_,D⟩
 have HA:bG (∀ j,(k0.clocks j).s.M=M.aft inp j):=hid (λj=>by rw[o];rfl);have HD0:bG (vV inp k0):=hid (by rw[o];exact vV.of hR.ck);have HM:bG (∀ j,j<N->(k0.clocks j).may):=hid (λj hj=>by rw[o];exact xV hf (by omega) ⟨by omega,hN.2⟩ hj);have p:bG (∀ j,(k0.clocks j).s.M.clock=M.clock+j):=hid (λj=>by rw[HA.out j];exact wG hR j);have HOK:bG (∀ x∈inp,x.ok):=hid (λx hx=>⟨(wD inp _ (wE hR.ck).2 x hx).1,hR.dn x hx⟩);have HLI:bG (inp.length<=40):=hid (wE hR.ck).1;have HK0:=hid o;have hc0:0<=M.clock:=hf.clock.1;have HC0:=hid hc0;have H:Below w.heap.size w ((w.alloc (χ (υ M S).toArray 41)).alloc (χ (υ aD aP).toArray 41)):=stA (stA (aR w) _) _;have HBM:=hid ((Bx.new w (υ M S) 41 (b:=w.heap.size) D).over (χ (υ aD aP).toArray 41));have HRB:=hid (Bx.new (w.alloc (χ (υ M S).toArray 41)) (υ aD aP) 41 (b:=w.heap.size+1) (by simp));have HS:=hid (hs.kept H);have HFX:=hid (hF.kept H);have HIN:=hid hin;have HW0:=hid H
 have HG:=hid hg;have HF:=hid hf;have HSZ:=hid hsz;have HR:=hid hR;have HN:=hid hN;clear hs hF hin hf hN H hg hsz hR h19 o;go_enter func26,ntmps26;go_upto_region 3 with(first
  | (refine wpList_load_mid D 41 _ D w.heap.size 0 D (υ M S) _ HBM.out.c underlying41 D cn ?_)
  | (go_at_call 8;refine(wB M S _ HS.out HSZ.out).mono ?_;rintro e w1 ⟨S1,rfl,hO,I⟩;have HO:bG (OwnS (w.heap.size+4) S1 M w1):=hid (by simpa using hO);have HBM1:=hid (HBM.out.kept I);have HRB1:=hid (HRB.out.kept I);have HB1:=hid I;clear hO I)
  | (refine zcX D 107 0 _ D (ac (υ M S1).toArray) _ D (xq M S1 _) ?_))
 have hB1:w.heap.size+4<=w1.heap.size:=by
  obtain⟨kk,L,_,_,hBk,hbx,_⟩:=HO.out.own 0 (by omega);have:=hbx.z;omega
 obtain⟨F,hFB,hFg,hlo,hGK,hGC⟩:=zyg HO.out HF.out hB1 (HFX.out.kept HB1.out) (by have:=HG.out;omega) 107;obtain⟨w2,P⟩:∃ w2,w2=((w1.alloc (χ (υ M S1++sj).toArray 107)).alloc (χ #[κ G 0 0,κ G 0 0,κ G 0 0] 47)):=⟨_,D⟩
 rw[<- P] at hGC;have R:Below w1.heap.size w1 w2:=by rw[P];exact stA (stA (aR w1) _) _
 have HBM2:=hid (HBM1.out.kept R);have HRB2:=hid (HRB1.out.kept R);have HLW2:=hid (bw (bw HW0.out HB1.out) R);have k:=hid hGK;have HLO:=hid hlo;have HGC:=hid hGC;have HFB:=hid hFB;rw[<- hFg] at *;clear hGK hGC hlo R HBM HRB HS HFX HB1 HO hB1 HBM1 HRB1 hFB;have HW2:=hid P;refine Pl.cutW (λι=>Wl F (F.g+1) (F.g+1) w (υ aD aP) k0 [] (κ G 0 0) ι/\Bx ι w.heap.size (υ M S)) (by rw[<- HW2.out];exact⟨Wl.start (by rw[HK0.out];exact HGC.out) HLW2.out HRB2.out (by have:=HFB.out;omega),HBM2.out⟩) ?_;intro ι hY;have l:=hY.2.at 72 (J Q M.clock) D;have xz:=hY.2.z;have HY:=hid hY.1;clear hY P HGC HBM2 HRB2 HLW2 HW2;obtain⟨e,he⟩:∃ e:Int,e=M.clock+N:=⟨_,D⟩
 have hwr:IntKind.i64.wrap (M.clock+(N:Int))=e:=by rw[aH];have:=HN.out;omega
 have he2:e<=200000:=by have:=HN.out;omega
 have HE:=hid he;clear he;go_wp2;clear l xz hwr;go_loopw [6] (λv6 wr=>∃(j:Nat) (js:List Nat) (ps:List (Mach × Sl)),j<=N/\Way M inp N js j/\ps.map Prod.fst=js.map (M.aft inp)/\Wl F (F.g+1) (F.g+1) w (υ aD aP) (k0.clocks j) ps v6 wr) (λ_ wr=>e.toNat-pU F.g wr)
 case atStart=>exact⟨0,[],[],bh _,Way.nil,D,HY.out⟩
 case round =>
  obtain⟨j,js,ps,hj,hWy,hps,hX⟩:=hrel;obtain⟨av,cv,ev⟩:=vT hX.own;subst ev;obtain⟨c,hc⟩:∃ c:Int,c=M.clock+(j:Int):=⟨_,D⟩
  have hck:=p.out j;have l:=hX.at 72 (J Q (k0.clocks j).s.M.clock) (by omega) D;rw[hck,<- hc] at l;have hcl:=zkx l;have xz:=hX.gz;have HX:=hid hX;have HWY:=hid hWy;have HPS:=hid hps;have HCE:=hid hc;have HCL:=hid hcl;have hc0:0<=c:=by have:=HC0.out;omega
  have HJ:=hid hj;clear HY hX hWy hps hck hcl hj;by_cases T:j<N
  ·have hce:c<e:=by have:=HE.out;omega
   have hc1:c<200000:=by omega
   have hps1:ps.length<=500:=by
    have h1:=congrArg List.length HPS.out;rw[bf,bf] at h1;have:=(HWY.out.le HR.out).2;have:=HN.out.1;omega
   obtain⟨X,h⟩:∃ X,X=(k0.clocks j).s.M:=⟨_,D⟩
   have r:=hid h;obtain⟨q,hq⟩:∃ q,q=wnx M inp N j:=⟨_,D⟩
   have m:bG (j<q/\q<=N):=hid (by rw[hq];exact zqx HR.out T);have HQ:=hid hq;have hnxt:max (if X.held then X.mready else min X.mready X.aready) (c+1)=X.next:=by
    unfold Mach.next;rw[h,p.out j,<- hc]
   have a:min X.next e=M.clock+q:=by
    have h1:=zvc HR.out T;rw[<- HA.out j,<- h,<- HE.out,<- hq] at h1;have h2:=m.out.1;omega
   obtain⟨t,ht⟩:∃ t:Int,t=M.clock+q:=⟨_,D⟩
   rw[<- hnxt,<- ht] at a;have HMIN:=hid a;have HT:=hid ht;have HLT:=hid T
   have y:bG (wr.rangeAt F.g 0 (υ X F.S)/\cf wr F.S X/\X.fit):=hid (by
    obtain⟨vl,vs,hcc⟩:=HX.out.c;obtain⟨vv,hd⟩:=hcc.gd;rw[h];exact⟨hd.row,hd.slAt,hd.fit⟩)
   have HPL:=hid hps1;clear h hq hnxt a ht T hps1 hc;go_upto_region 6 with(first
    | (at_builtin;refine zpb (M:=X) (S:=S1) D _ _ (by rfl) (by rfl) HOW.out w3.heap.size (by rfl) HBX.out U.out (by have:=HPL.out;omega) HBZ.out ?_;intro g' L W3 B hg'
       refine Pl.cutL (Wl F (F.g+1) (F.g+1) w (υ aD aP) (k0.clocks j) (ps++[(X,S1)]) (κ (A ⟨g',0,G⟩) (ps.length+1) L)) (Wl.saw k.out HX.out W.out HO3.out (HX.out.nz k.out) y.out.2.2 hg' B) ?_;intro V hV;have n:=hid hV;clear hV B hg')
    | (refine zmB D _ D X S1 D ?_
       have HOW:bG ((w3.alloc (χ (υ X S1).toArray 41)).ownsRow (F.g+1) 41 75 (κ av ps.length cv) ps.length (qR ps)):=hid (HX.out.kept (bw W.out (stA (aR w3) _))).own;have HBX:=hid (Bx.new w3 (υ X S1) 41 (b:=w3.heap.size) D);have U:=hid (kC HO3.out.slAt);have HBZ:bG (F.g+1<=(w3.alloc (χ (υ X S1).toArray 41)).heap.size):=hid (HX.out.kept (bw W.out (stA (aR w3) _))).nz k.out)
    | (go_at_call 8;refine(wB X F.S _ y.out.2.1 (λj hj=>ax (zF y.out.2.2 j hj) (by decide))).mono ?_;rintro e3 w3 ⟨S1,rfl,hO3,hb3⟩;have HO3:=hid hO3;have W:=hid hb3;clear hO3 hb3)
    | (refine wpList_load_mid D 41 _ D F.g 0 D (υ X F.S) _ y.out.1 underlying41 D cn ?_))
   clear y HX l HOW HBX U HBZ HO3 W;have y72:=n.out.at 72 (J Q (k0.clocks j).s.M.clock) (by omega) D;have y73:=n.out.at 73 (J Q (k0.clocks j).s.M.mready) (by omega) D;have y68:=n.out.at 68 (ν (k0.clocks j).s.M.held) (by omega) D;have y74:=n.out.at 74 (J Q (k0.clocks j).s.M.aready) (by omega) D;rw[p.out j,<- HCE.out] at y72;rw[<- r.out] at y73 y68 y74;have yz:=n.out.gz;have a:=HMIN.out;obtain⟨hd,hhd⟩:∃ b,b=X.held:=⟨_,D⟩
   rw[<- hhd] at y68 a;clear hhd;cases hd;all_goals
    simp only[fO,fj,cD] at a;go_wp2;clear y72 y73 y68 y74 yz a;go_loopw [] (λwi=>∃ i:Nat,j<=i/\i<=q/\Wl F (F.g+1) (F.g+1) w (υ aD aP) (k0.clocks i) (ps++[(X,S1)]) (κ (A ⟨g',0,G⟩) (ps.length+1) L) wi) (λwi=>e.toNat-pU F.g wi)
    case atStart=>exact⟨j,ψ _,iy m.out.1,n.out⟩
    case round =>
     obtain⟨i,hi1,hi2,Z⟩:=hrel;obtain⟨d,hdc⟩:∃ d:Int,d=M.clock+(i:Int):=⟨_,D⟩
     have z72:=Z.at 72 (J Q (k0.clocks i).s.M.clock) (by omega) D;rw[p.out i,<- hdc] at z72;have hcl2:=zkx z72;have HCL2:=hid hcl2;have zz:=Z.gz;have E:=hid Z;have HDC:=hid hdc;have HI:=hid (And.intro hi1 hi2);clear Z hdc hi1 hi2 hcl2;by_cases hlt2:i<q
     ·have hdt:d<t:=by have:=HDC.out;have:=HT.out;omega
      have HL2:=hid hlt2
      have HNX:=hid (by
       obtain⟨vl,vs,hcc⟩:=E.out.c;exact zyf k.out hcc ((HIN.out.kept E.out.low).mono (by have:=E.out.z;omega)) HOK.out HLI.out (HD0.out.clocks i) (HM.out i (by have:=m.out;omega)))
      clear hlt2;go_wp2_with (go_at_call 41;refine HNX.out.mono ?_;rintro e4 w4 ⟨rfl,vl2,vs2,hG2⟩;have HX2:bG (Wl F (F.g+1) (F.g+1) w (υ aD aP) (k0.clocks (i+1)) (ps++[(X,S1)]) (κ (A ⟨g',0,G⟩) (ps.length+1) L) w4):=hid (Wl.clock k.out E.out hG2);clear hG2)
      have u72:=HX2.out.at 72 (J Q (k0.clocks (i+1)).s.M.clock) (by omega) D;rw[p.out (i+1)] at u72;have hu:=zkx u72;refine⟨⟨i+1,by have:=HI.out;omega,by have:=HL2.out;omega,HX2.out⟩,?_⟩;rw[hu,HCL2.out,HDC.out];have:=HE.out;have:=HL2.out;have:=m.out;have:=HC0.out;omega
     ·have hdt:¬ d<t:=by have:=HDC.out;have:=HT.out;omega
      have hiq:i=q:=by have:=HI.out;omega
      subst hiq;go_wp2;refine⟨⟨i,js++[j],ps++[(X,S1)],m.out.2,by rw[HQ.out];exact Way.cons HWY.out HLT.out,by rw[gQ,gQ,HPS.out];simp[r.out,HA.out],E.out⟩,?_⟩;rw[HCL2.out,HCL.out,HDC.out,HCE.out];have:=HE.out;have:=m.out;have:=HC0.out;omega
  ·have hjn:j=N:=by have:=HJ.out;omega
   subst hjn;have hnl:¬ c<e:=by have:=HE.out;have:=HCE.out;omega
   go_upto_region 12 with fail
   refine Pl.cutW (Wl F (F.g+1) (F.g+1) w (υ aD aP) (k0.clocks j) ps (κ av ps.length cv)) HX.out ?_;intro Y1 hY1;have HY:=hid (hY1.kept (aR Y1).drew);have hXA:=HA.out j;have hfi:=(HY.out.fin k.out HLO.out)
   have hwf:=HY.out.wf;rw[hXA] at hfi hwf;have HFI:=hid hfi;have HWF:=hid hwf;have U:=hid (kC hwf.sl);obtain⟨X,h⟩:∃ X,X=M.aft inp j:=⟨_,D⟩
   have r:=hid h;rw[<- h] at HFI HWF;clear hY1 HX hXA hfi hwf h l;refine wp_region_held_drew (S:=λw'=>w'.rangeAt F.g 0 (υ X F.S)) (by kernel_rfl) (HWF.out.g) ?_;intro hS;refine dy 0 ⟨A 73,_,_,_,_,G⟩ hS ?_;simp only[ag,xA,xB,xC];refine dy 1 ⟨A 74,_,_,_,_,G⟩ hS ?_;simp only[ag,xA,xB,xC];refine dy 2 ⟨A 75,_,_,_,_,G⟩ hS ?_;simp only[ag,xA,xB,xC];refine dy 3 ⟨A 76,_,_,_,_,G⟩ hS ?_;simp only[ag,xA,xB,xC];refine jW 4 (ac (υ X F.S).toArray) D (λw' hSw=>ml 41 _ D F.g 0 D (υ X F.S) _ hSw underlying41 D cn) hS ?_;refine dy 5 ⟨A 6,_,_,_,_,G⟩ hS ?_;simp only[ag,xA,xB,xC];clear hS;refine tK (i:=6) (op:=⟨G,_,_,_,_,G⟩) (by kernel_rfl) D D 41 _ _ D (w.heap.size+1) 0 (υ X F.S).toArray D D (HWF.out.rb.there 0 75 (by rw[dG];omega)) cn (iq _ _ U.out) HFI.out.g ?_;refine wpAnyH_done (by kernel_rfl) ?_ _;refine Pl.cutE (Wf F w (υ X F.S) X ps (κ av ps.length cv)) HFI.out ?_;intro V hV;have n:=hid hV;clear hV HY HFI HWF
   go_wp2;refine Ξ (v:=Ψ #[κ av ps.length cv,ac (υ X F.S).toArray]) ?_ D ⟨κ av ps.length cv,ps,F.S,js,by rw[r.out],HWY.out,HPS.out,n.out.row,n.out.cp,by rw[<- r.out];exact n.out.sl,n.out.low,n.out.ft⟩;have l1:=run_loadVar_mid V (w.heap.size+1) 0 41 _ _ n.out.rb.c underlying41 D cn;simp only[results,results26];simp;show (aE (bL ω (bC 41 ⟨w.heap.size+1,0,G⟩) V) _)=_;rw[l1];rfl
end Go.Proofs.YthghjlinhokimaaGreatDoor
