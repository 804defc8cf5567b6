/-
  Parts of a proof, joined.
-/
import Derived.Test.YthghjlinhokimaaGreatDoorZbA
import Derived.Test.YthghjlinhokimaaGreatDoorZbWatchTrace02
import Derived.Test.YthghjlinhokimaaGreatDoorZb43
set_option linter.all false
set_option maxRecDepth 100000
set_option maxHeartbeats 6400000
open Option renaming none->G,some->A
open Go renaming World->u,Value->π,Calls->Δ,TypeId->aJ,loadVar->bC,MemPlace->dZ,DataW->fF,reachBytes->iS
open Bool renaming false->ξ,true->Γ
open Go.Proofs.Tryz renaming prog->ω
open Go.Act renaming put->ag
open Or renaming inl->aj,inr->ao
open Go.Result renaming andThen->aE
open Go.Lib renaming itoa->ba,join->fk
open Go.RowKit renaming Hid->bG
open Go.Value renaming slice->κ,pointer->aB,int->J,bool->ν,tuple->Ψ,string->Ω,agg->ac
open Go.Sem renaming run->bL
open Go.Region renaming wanted->b9
open Go.DataW renaming trod->dh,weights->qu
open Go.Instr renaming build->dw,next->fs,buildSlice->gx
open Go.Builtin renaming append_->fe,lenOf->jo
open Go.IntKind renaming i64->Q,u16->Y
open Go.Ending renaming returned->μ
open Go.Obj renaming cells->χ
namespace Go.Proofs.YthghjlinhokimaaGreatDoor
open Go.ChangeShapes Go.WideShapes Go.ChangeAt Go.RowKit Go.Proofs.Tryz
section
variable {w1 ι Y' : u} {X : Mach} {S' : Sl} {L : List π}
end
theorem xx(M:Mach)(S:Sl)(n:Int)(w:u):Δ ω 15 #[ac (υ M S).toArray,J Q n] w λe w'=>e=μ (ν (decide (19000<M.b.f)))/\Below w.heap.size w w':=by
 have hB:=Bx.new w (υ M S) 41 (b:=w.heap.size) D;have a:=hB.at 64 (J Q M.b.f) D;clear hB;go_enter func15,ntmps15;go_wp2;go_ret;exact⟨D,stA (aR w) _⟩
section
variable {w w1 : u} {v : π} {n z B : Nat} {xs : List π} {t : aJ}
theorem vI{d:aJ}(e:Tryz.prog.underlying d=A (.slice t))(i:TypeInfo)(hi:Tryz.prog.info? t=A i)(ty:aJ)(b:w.ownsRow B t z v n xs)(a:Option Addr)(c:Nat):(fe #[d,d] ty #[v,κ a 0 c]).run ω w=.ok v w:=by
 have h:=cQ (P:=ω) e;have k:(Builtin.firstCells i.size 0 (κ a 0 c)).run ω w=.ok #[] w:=by
  cases a with
  | none=>exact kJ w i.size 0 0 c
  | some a=>exact kK w i.size 0 a 0 c [] (by simp) (λj v l=>by simp at l)
 rcases b.2 with⟨rfl,rfl⟩|⟨g,m,o,rfl,_,_,f,_⟩
 ·simp[fe,h,sizeOf,typeInfo,hi,jo,k]
 ·simp[fe,h,sizeOf,typeInfo,hi,jo,k,f,storeCells]
end
theorem zfV{M:Mach}{l:List Inp}{n:Int}(h1:M.chk=0)(h2:chkIn l M.clock=0)(h:0<=n/\n<=20000/\M.clock+n<=200000):bS M l n=0:=by
 unfold bS;rw[am h1,am h2,am h]
/-! ### inputs that are right -/
theorem zgA:∀(l:List Inp) (a:Int),chkL l a=0->sn l /\ ∀ x∈l,x.c<=400000
 | [],a,_=>⟨List.Pairwise.nil,λx b=>by cases b⟩
 | y::l,a,h=>by
  unfold chkL at h;split at h
  ·cases h
  ·rename_i h1
   split at h
   ·obtain⟨d,i2⟩:=zgA l y.c h
    exact⟨fC.2 ⟨λx b=>(wD l y.c h x b).2,d⟩,λx b=>by
     rcases bp.1 b with rfl|b
     ·omega
     ·exact i2 x b⟩
   ·cases h
theorem zuN:∀(l:List Inp) (a:Int),sn l->(∀ x∈l,a<=x.c/\x.c<=400000/\(x.p=0 \/ x.p=1))->chkL l a=0
 | [],a,_,_=>rfl
 | y::l,a,hp,h=>by
  obtain⟨h1,h2,h3⟩:=h y bO;have b:=fC.1 hp;rw[chk0 (by omega) h3];exact zuN l y.c b.2 (λx d=>⟨b.1 x d,(h x (bV _ d)).2⟩)
theorem zxf{l:List Inp}{a c:Int}(h:chkIn l a=0)(hc:a<=c):chkIn (l.filter (λx=>decide (c<=x.c))) c=0:=by
 obtain⟨h1,h2⟩:=wE h;obtain⟨h3,h4⟩:=zgA l a h2;unfold chkIn;rw[ae (by have:=iL (λx:Inp=>decide (c<=x.c)) l;omega)];refine zuN _ _ (nG _ h3) (λx e=>?_);obtain⟨b,d⟩:=ju.1 e;exact⟨by simpa using d,h4 x b,(wD l a h2 x b).1⟩
/-! ### what lies where -/
/-! ### a frame over one letter -/
def Mach.aft(M:Mach)(l:List Inp)(j:Nat):Mach:=(Cs.clocks ⟨⟨M,0,[]⟩,l,[],[]⟩ j).s.M
def wnx(M:Mach)(l:List Inp)(n j:Nat):Nat:=(min (M.aft l j).next (M.clock+n)-M.clock).toNat
inductive Way (M : Mach) (l : List Inp) (n : Nat) : List Nat -> Nat -> Prop
 | nil:Way M l n [] 0
 | cons {js:List Nat} {j:Nat}:Way M l n js j->j<n->Way M l n (js++[j]) (wnx M l n j)
structure InR (M : Mach) (l : List Inp) : Prop where
 p:sn l
 ge:∀ x∈l,M.clock<=x.c
 ck:chkIn l M.clock=0
 dn:∀ x∈l,0<=x.d/\x.d<=255
theorem InR.of{M:Mach}{l:List Inp}(h:chkIn l M.clock=0)(a:∀ x∈l,0<=x.d/\x.d<=255):InR M l:=⟨(zgA l _ (wE h).2).1,λx b=>(wD l _ (wE h).2 x b).2,h,a⟩
section
variable {M : Mach} {l : List Inp} {n j : Nat} {js : List Nat}
theorem wG(h:InR M l)(j:Nat):(M.aft l j).clock=M.clock+j:=(zcz ⟨⟨M,0,[]⟩,l,[],[]⟩ l rfl h.p h.ge j).1
theorem zva(h:InR M l)(a b:Nat):M.aft l (a+b)=(M.aft l a).aft (comes (M.clock+a) l) b:=by
 rw[zds _ _ h.p];exact(zuH M l h.p h.ge a b).s.M
theorem InR.aft(h:InR M l)(j:Nat):InR (M.aft l j) (comes (M.clock+j) l):=by
 rw[zds _ _ h.p];have hc:=wG h j;exact InR.of (by rw[hc];exact zxf h.ck (by omega)) (λx a=>h.dn x (ju.1 a).1)
theorem zvb(X:Mach):X.clock+1<=X.next:=by unfold Mach.next;omega
theorem zqx(h:InR M l)(a:j<n):j<wnx M l n j/\wnx M l n j<=n:=by
 have:=wG h j;have:=zvb (M.aft l j);unfold wnx;omega
theorem zvc(h:InR M l)(a:j<n):min (M.aft l j).next (M.clock+n)-(M.clock+j)=((wnx M l n j-j:Nat):Int):=by
 have:=wG h j;have:=zvb (M.aft l j);unfold wnx;omega
theorem Way.le(h:InR M l)(w:Way M l n js j):j<=n/\js.length<=j:=by
 induction w with
 | nil=>exact⟨bh _,ψ _⟩
 | @cons js j w a b =>
  have:=zqx h a;rw[az];exact⟨this.2,by simp;omega⟩
theorem zvd(e:M.fit)(c:M.b.f<=19000)(g:j<=500):(M.aft l j).b.f<=20000:=by
 have hb:=e.b;have d:=zR ⟨⟨M,0,[]⟩,l,[],[]⟩ ⟨hb.l0,hb.l1,hb.a0,hb.a1,hb.f0,by show M.b.f<=20000;omega⟩ c j (by omega);show (Cs.clocks ⟨⟨M,0,[]⟩,l,[],[]⟩ j).s.M.b.f<=20000;rw[d.f];show lS M.b.l M.b.a M.b.f j<=20000;have:=hb.l0;have:=hb.l1;have:=hb.a0;have:=hb.a1;unfold lS;omega
end
def jz(M:Mach)(l:List Inp)(n:Int):Int:=if bS M l 0=0 then (if 0<=n/\n<=500/\M.clock+n<=200000 then 0 else 3) else bS M l 0
structure Lw (q : Nat) (g : Option Nat) (w w' : u) : Prop where
 os:w'.os=w.os
 tape:w'.tape=w.tape
 output:w'.output=w.output
 size:w.heap.size<=w'.heap.size
 block:∀ k,k<w.heap.size->k≠q->g≠A k->w'.heap[k]?=w.heap[k]?
theorem Lw.below{q B:Nat}{g:Option Nat}{w w':u}(h:Lw q g w w')(hB:B<=w.heap.size)(b:B<=q)(a:∀ k,g=A k->B<=k):Below B w w' :=
 ⟨h.os,h.tape,h.output,h.size,λk c=>h.block k (by omega) (by omega) (λe=>by have:=a k e;omega)⟩
theorem Lw.of{q:Nat}{g:Option Nat}{w w':u}(h:Below w.heap.size w w'):Lw q g w w':=⟨h.os,h.tape,h.output,h.size,λk a _ _=>h.block k a⟩
structure Jw (q : Nat) (δ : List Dd -> Option Nat -> u -> Prop) : Prop where
 same:∀ acc g w w',δ acc g w->w.heap.size<=w'.heap.size->w'.heap[q]?=w.heap[q]?->(∀ k,g=A k->w'.heap[k]?=w.heap[k]?)->δ acc g w'
 q:∀ acc g w,δ acc g w->q<w.heap.size
 g:∀ acc g w,δ acc g w->∀ k,g=A k->k<w.heap.size
theorem cf.same{W d:u}{S:Sl}{M:Mach}(h:cf W S M)(k:W.heap.size<=d.heap.size)(hb:∀ j,j<5->∀ a m c,S.get j=κ (A a) m c->0<m->d.heap[a.block]?=W.heap[a.block]?):cf d S M:=λj e=>by
 rcases h j e with l|⟨g,o',b,e1,e2,e3,e4⟩
 ·exact aj l
 ·by_cases n:0<(M.byt j).length
  ·exact ao ⟨g,o',b,e1,e2,Θ e3 k,λi c hi=>(Φ (show d.heap[g]?=W.heap[g]? from hb j e _ _ _ e1 n)).trans (e4 i c hi)⟩
  ·have f:M.byt j=[]:=fM (by omega)
   exact aj ⟨_,b,by rw[e1,f];rfl,f⟩
theorem cf.lt{W:u}{S:Sl}{M:Mach}(h:cf W S M):∀ j,j<5->∀ a m c,S.get j=κ (A a) m c->0<m->a.block<W.heap.size:=λj b a m c e i=>by
 rcases h j b with⟨_,_,d,_⟩|⟨g,o',f,e1,e2,e3,e4⟩
 ·rw[d] at e;cases e;omega
 ·rw[e1] at e;cases e;exact e3
def sR(g:Option Nat)(S:Sl):Prop:=∀ j,j<5->∀ a m c,S.get j=κ (A a) m c->0<m->g≠A a.block
structure FI (q : Nat) (w : u) (δ : List Dd -> Option Nat -> u -> Prop) (X : Mach) (SX : Sl) (acc : List Dd) (g : Option Nat) (ι : u) : Prop where
 low:Lw q G w ι
 bx:Bx ι w.heap.size (υ X SX)
 rb:Bx ι (w.heap.size+1) (υ aD aP)
 sl:cf ι SX X
 nw:gA (w.heap.size+2) SX
 off:sR g SX
 jj:δ acc g ι
 gb:∀ k,g=A k->w.heap.size+2<=k
structure FR (q : Nat) (w : u) (δ : List Dd -> Option Nat -> u -> Prop) (X : Mach) (SX : Sl) (acc : List Dd) (g : Option Nat) (V : u) : Prop where
 low:Lw q G w V
 rb:Bx V (w.heap.size+1) (υ X SX)
 sl:cf V SX X
 jj:δ acc g V
 nw:gA (w.heap.size+2) SX
theorem Lw.trans{q:Nat}{g:Option Nat}{w ι Y':u}(h:Lw q G w ι)(k:Lw q g ι Y')(b:∀ k,g=A k->w.heap.size<=k):Lw q G w Y' :=
 ⟨k.os.trans h.os,k.tape.trans h.tape,k.output.trans h.output,ax h.size k.size,λi hi a _=>(k.block i (Θ hi h.size) a (λe=>by have:=b i e;omega)).trans (h.block i hi a (by simp))⟩
theorem Lw.below0{q:Nat}{w0 w ι:u}(h:Lw q G w ι)(a:Below w0.heap.size w0 w)(b:w0.heap.size<=q):Below w0.heap.size w0 ι:=a.trans (h.below a.size b (λk e=>by cases e))
theorem Lw.sets{q b o:Nat}{g:Option Nat}{w ι:u}(h:Lw q g w ι)(hb:w.heap.size<=b)(vs:List π):Lw q g w (ι.setCells b o vs):=by
 have h1:Below b ι (ι.setCells b o vs):=ni (bq _ _) (ψ _) vs o;exact⟨h1.os.trans h.os,h1.tape.trans h.tape,h1.output.trans h.output,ax h.size h1.size,λk a c d=>(h1.block k (by omega)).trans (h.block k a c d)⟩
theorem Aa(V:u):cf V aP aD:=λj a=>by
 have hc:j=0 \/ j=1 \/ j=2 \/ j=3 \/ j=4:=by omega
 rcases hc with rfl|rfl|rfl|rfl|rfl <;> exact aj ⟨G,0,D,D⟩
section
variable {w0 w ι Y' : u} {q : Nat} {δ : List Dd -> Option Nat -> u -> Prop} {X : Mach} {SX : Sl} {acc acc' : List Dd} {g g' : Option Nat}
theorem FI.kept(a:Jw q δ)(h:FI q w δ X SX acc g ι)(hb:Below ι.heap.size ι Y'):FI q w δ X SX acc g Y' :=
 ⟨h.low.trans (Lw.of (g:=G) hb) (λk e=>by cases e),h.bx.kept hb,h.rb.kept hb,h.sl.kept hb,h.nw,h.off,a.same _ _ _ _ h.jj hb.size (hb.block _ (a.q _ _ _ h.jj)) (λk e=>hb.block _ (a.g _ _ _ h.jj k e)),h.gb⟩
theorem FI.look(o:q<w.heap.size)(h:FI q w δ X SX acc g ι)(b:Lw q g ι Y')(d:δ acc' g' Y')(i:g'=g \/ ∃ k,g'=A k/\ι.heap.size<=k):FI q w δ X SX acc' g' Y':=by
 have b0:=h.bx.z;have b1:=h.rb.z;refine⟨h.low.trans b (λk e=>by have:=h.gb k e;omega),h.bx.same b.size (b.block _ b0 (by omega) (λe=>by have:=h.gb _ e;omega)),h.rb.same b.size (b.block _ b1 (by omega) (λe=>by have:=h.gb _ e;omega)),h.sl.same b.size (λj d a m c e f=>b.block _ (h.sl.lt j d a m c e f) (by have:=h.nw j d a m c e;omega) (h.off j d a m c e f)),h.nw,?_,d,?_⟩
 ·rcases i with rfl|⟨k,rfl,l⟩
  ·exact h.off
  ·intro j d a m c e f n
   have:=h.sl.lt j d a m c e f;cases n;omega
 ·rcases i with rfl|⟨k,rfl,l⟩
  ·exact h.gb
  ·intro k' e
   cases e;omega
theorem FI.of{L:List π}{a:Mach}{S':Sl}(f:Jw q δ)(n:q<w.heap.size)(h:Lw q G w ι)(hb:Bx ι w.heap.size L)(b:L.length=75)(i:Bx ι (w.heap.size+1) (υ aD aP))(j:δ acc g ι)(c:∀ k,g=A k->w.heap.size+2<=k)(l:cf ι S' a)(d:gA (w.heap.size+2) S')(m:sR g S'):FI q w δ a S' acc g (ι.setCells w.heap.size 0 (υ a S')):=by
 have h1:=hb.puts 0 (υ a S') (by rw[dG,b];omega);rw[mK _ _ (by rw[dG,b])] at h1;exact⟨h.sets (by omega) _,h1,DW.bb i (by omega),l.off d (by omega) _ _,d,m,f.same _ _ _ _ j (cq (pN _ _ _ _).symm) (ji (by omega) _ _ _) (λk e=>ji (by have:=c k e;omega) _ _ _),c⟩
theorem FI.put{a:Mach}{S':Sl}(b:Jw q δ)(c:q<w.heap.size)(h:FI q w δ X SX acc g ι)(d:cf ι S' a)(e:gA (w.heap.size+2) S')(f:sR g S'):FI q w δ a S' acc g (ι.setCells w.heap.size 0 (υ a S')):=FI.of b c h.low h.bx (dG _ _) h.rb h.jj h.gb d e f
theorem FI.far{b o:Nat}(d:Jw q δ)(r:q<w.heap.size)(h:FI q w δ X SX acc g ι)(hb:w.heap.size+2<=b)(f:∀ j,j<5->∀ a m c,SX.get j=κ (A a) m c->0<m->a.block≠b)(i:g≠A b)(vs:List π):FI q w δ X SX acc g (ι.setCells b o vs) :=
 ⟨h.low.sets (by omega) _,DW.bb h.bx (by omega),DW.bb h.rb (by omega),h.sl.same (cq (pN _ _ _ _).symm) (λj l a m c e n=>ji (f j l a m c e n) _ _ _),h.nw,h.off,d.same _ _ _ _ h.jj (cq (pN _ _ _ _).symm) (ji (by omega) _ _ _) (λk e=>ji (λp=>i (by rw[e,p])) _ _ _),h.gb⟩
theorem FI.ret{a:Mach}{S':Sl}(c:Jw q δ)(f:q<w.heap.size)(h:FI q w δ X SX acc g ι)(d:cf ι S' a)(b:gA (w.heap.size+2) S'):FR q w δ a S' acc g (ι.setCells (w.heap.size+1) 0 (υ a S')):=by
 have h1:=h.rb.puts 0 (υ a S') (by rw[dG,dG];omega);rw[mK _ _ (by rw[dG,dG])] at h1;exact⟨h.low.sets (by omega) _,h1,d.off b (by omega) _ _,c.same _ _ _ _ h.jj (cq (pN _ _ _ _).symm) (ji (by omega) _ _ _) (λk e=>ji (by have:=h.gb k e;omega) _ _ _),b⟩
end
theorem A7(n:Nat):gA n aP:=λj b a m c e=>by
 have hc:j=0 \/ j=1 \/ j=2 \/ j=3 \/ j=4:=by omega
 rcases hc with rfl|rfl|rfl|rfl|rfl <;> cases e
theorem zi1(M:Mach)(S:Sl)(v:π)(l:List Inp)(n:Nat)(w:u)(k:cf w S M)(m:∀ j,j<5->(M.byt j).length<=9223372036854775807)(b:M.ok)(i:br w)(c:bP w.heap.size w v l)(o:∀ x∈l,0<=x.d/\x.d<=255)(y:n<=9223372036854775807):Δ ω 9 #[ac (υ M S).toArray,v,J Q n] w λe w'=>∃(g:Mach) (S':Sl) (a1 a2 a3:Option Addr) (p q r c1 c2 c3:Nat),e=μ (Ψ #[ac (υ g S').toArray,ac #[κ a1 p c1,κ a2 q c2,κ a3 r c3],J Q (bS M l n)])/\cf w' S' g/\gA w.heap.size S'/\Below w.heap.size w w'/\(bS M l n=0->g=M.aft l n/\g.fit):=by
 by_cases a:bS M l n=0
 ·have h1:M.chk=0:=by
   unfold bS at a;split at a
   ·assumption
   ·exact a
  have h2:chkIn l M.clock=0:=by
   unfold bS at a;rw[am h1] at a;split at a
   ·assumption
   ·exact a
  have h3:0<=(n:Int)/\(n:Int)<=20000/\M.clock+n<=200000:=by
   unfold bS at a;rw[am h1,am h2] at a;split at a
   ·assumption
   ·cases a
  have s:=wA b h1;refine(AV M S v l n w k i c o s (zeA h1) h2 ⟨by omega,h3.2.2⟩).mono ?_;rintro e w' ⟨F,N,vln,vsm,vw,rfl,f,hB,_,t,hb⟩;obtain⟨p1,c1,e1⟩:=tZ f.ln;obtain⟨p2,c2,e2⟩:=tZ f.sm;obtain⟨p3,c3,e3⟩:=tZ f.ws;subst e1 e2 e3;exact⟨_,F.S,p1,p2,p3,_,_,_,c1,c2,c3,by rw[a],f.sl,t.mono hB,hb,λ_=>⟨D,f.fit⟩⟩
 ·refine(zfd M S v l n w k m b c ⟨by omega,by omega⟩ a).mono ?_
  rintro e w' ⟨rfl,hb⟩;exact⟨aD,aP,G,G,G,0,0,0,0,0,0,D,Aa _,A7 _,hb,λh=>absurd h a⟩
def vn(M:Mach)(l:List Inp)(n:Int)(b:Mach->Bool)(f:Mach->List Dd)(X:Mach)(t:Bool)(c:Int)(acc:List Dd):Prop :=
 (c≠0/\X=aD/\t=ξ/\(c=jz M l n \/ (jz M l n=0/\19000<M.b.f))) \/
 (c=0/\jz M l n=0/\M.fit/\InR M l /\ ∃(a:List Nat) (j:Nat),Way M l n.toNat a j/\X=M.aft l j/\(∀ i∈a,b (M.aft l i)=ξ) /\
   ((t=ξ/\j=n.toNat/\acc=(a.map (λi=>f (M.aft l i))).flatten) \/ (t=Γ/\j<n.toNat/\b X=Γ/\acc=(a.map (λi=>f (M.aft l i))).flatten++f X)))
def pU(b:Nat)(w:u):Nat:=match w.cell? ⟨b,72,G⟩ with
 | some (.int _ c)=>c.toNat
 | _=>0
theorem zyh{b:Nat}{ι:u}{X:Mach}{SX:Sl}(h:Bx ι b (υ X SX)):pU b ι=X.clock.toNat:=by
 unfold pU;rw[h.at 72 (J Q X.clock) D]
theorem zqy{f:Mach->List Dd}(b:∀ X,(f X).length<=2)(K:Nat->Mach):∀ a:List Nat,((a.map (λi=>f (K i))).flatten).length<=2*a.length
 | []=>by simp
 | j::a=>by
  have:=zqy b K a;have:=b (K j);simp only[cI,jT,az,cy];omega
theorem Wc.long{M X:Mach}{l:List Inp}{N j k:Nat}(m:M.fit)(a:InR M l)(o:N<=500)(hc:0<=M.clock/\M.clock+N<=200000)(n:j<N)(c:X=M.aft l j)(d:X.fit)(p:k=wnx M l N j-j)(h:bS X (comes X.clock l) k≠0):19000<M.b.f:=by
 refine qb.1 (λe=>h ?_);have hb:=zqx a n;have g:=wG a j;have h2:=(a.aft j).ck;rw[<- c] at g;rw[<- c,<- g] at h2;have i:X.b.f<=20000:=by rw[c];exact zvd m e (by omega)
 exact zfV (zjP d i) h2 ⟨by omega,by omega,by rw[g];omega⟩
inductive FPost (M : Mach) (l : List Inp) (n : Int) (q : Nat) (δ : List Dd -> Option Nat -> u -> Prop) (b : Mach -> Bool) (f : Mach -> List Dd) (w : u) (e : Ending) (w' : u) : Prop
 | mk (X:Mach) (SX:Sl) (t:Bool) (er:Int) (acc:List Dd) (g:Option Nat) (h:e=μ (Ψ #[ac (υ X SX).toArray,ν t,J Q er])) (h2:vn M l n b f X t er acc) (h3:δ acc g w') (h4:cf w' SX X) (h5:Lw q G w w') (h6:gA w.heap.size SX)
theorem Wc.follow(M:Mach)(S:Sl)(v:π)(l:List Inp)(n:Int)(fn:Nat)(cv:π)(q:Nat)(δ:List Dd->Option Nat->u->Prop)(b:Mach->Bool)(f:Mach->List Dd)(w0 w:u)
 (hcf:∀(a:Array π) (w:u),(callFunc fn a).run ω w=.ok (.enter fn a) w)
 (hlook:∀ acc g X SX ι,δ acc g ι->Below w0.heap.size w0 ι->cf ι SX X->X.fit->acc.length<=1000->Δ ω fn #[ac (υ X SX).toArray,cv] ι λe w'=>e=μ (ν (b X)) /\ ∃ g',δ (acc++f X) g' w'/\(g'=g \/ ∃ k,g'=A k/\ι.heap.size<=k)/\Lw q g ι w')
 (hf2:∀ X,(f X).length<=2) (hJ:Jw q δ) (hq:w0.heap.size<=q/\q<w.heap.size) (hj0:δ [] G w) (T:Below w0.heap.size w0 w)
 (hs:cf w0 S M) (hz:∀ j,j<5->(M.byt j).length<=9223372036854775807) (hok:M.ok) (hsh:br w0) (hin:bP w0.heap.size w0 v l) (hdn:∀ x∈l,0<=x.d/\x.d<=255) (hn:-9223372036854775808<=n/\n<=9223372036854775807) :
 Δ ω 50 #[ac (υ M S).toArray,v,J Q n,.func (.func fn) #[] #[cv]] w (FPost M l n q δ b f w):=by
 obtain⟨n1,n2⟩:=hn;have hW1:Below w.heap.size w ((w.alloc (χ (υ M S).toArray 41)).alloc (χ (υ aD aP).toArray 41)):=stA (stA (aR w) _) _;have hB0:=bw T hW1;have HL1:=hid (Lw.of (q:=q) (g:=G) hW1);have HB4:=hid ((Bx.new w (υ M S) 41 (b:=w.heap.size) D).over (χ (υ aD aP).toArray 41));have HB8:=hid (Bx.new (w.alloc (χ (υ M S).toArray 41)) (υ aD aP) 41 (b:=w.heap.size+1) (by simp));have HJ1:=hid (hJ.same _ _ _ _ hj0 hW1.size (hW1.block _ hq.2) (λk e=>by cases e));have hR0:=zi1 M S v l 0 _ (hs.kept hB0) hz hok (xj hsh (hB0.block _ (AT hsh))) ((hin.kept hB0).mono hB0.size) hdn (by omega);rw[show ((0:Nat):Int)=0 from D] at hR0;obtain⟨r,hre⟩:∃ r,r=bS M l 0:=⟨_,D⟩
 rw[<- hre] at hR0;have HR0:=hid hR0;have HRE:=hid hre;have HLK:=hid hlook;have HF2:=hid hf2;have H:=hid hJ;have W:=hid hq;have HLW:=hid T;have HSH:=hid hsh;have HIN:=hid hin;have HDN:=hid hdn;have HZ0:bG (w0.heap.size<=w.heap.size):=hid T.size;have HOK:=hid hok;clear hR0 hre hlook hf2 hJ hq T hsh hin hdn hok hs hz hj0 hB0 hW1;go_enter func50,ntmps50;go_upto_region 2 with(first
  | (refine wpList_load_mid D 41 _ D w.heap.size 0 D (υ M S) _ HB4.out.c underlying41 D cn ?_)
  | (go_at_call 9;refine HR0.out.mono ?_;rintro e w5 ⟨X,SX,a1,a2,a3,m1,m2,m3,c1,c2,c3,rfl,hs5,hn5,t,hx5⟩
     have I:Below w5.heap.size w5 (w5.alloc (χ #[κ G 0 0,κ G 0 0,κ G 0 0] 47)):=stA (aR w5) _;have HB45:=hid ((HB4.out.kept t).kept I);have HB85:=hid ((HB8.out.kept t).kept I);have HJ5:=hid (H.out.same _ _ _ _ HJ1.out (ax t.size I.size) ((I.block _ (Θ (H.out.q _ _ _ HJ1.out) t.size)).trans (t.block _ (H.out.q _ _ _ HJ1.out))) (λk e=>by cases e));have HL5:=hid ((HL1.out.trans (Lw.of (g:=G) t) (λk e=>by cases e)).trans (Lw.of (g:=G) I) (λk e=>by cases e));have HS5:=hid hs5;have HS6:=hid (hs5.kept I);have L:bG (gA (w.heap.size+2) SX):=hid (hn5.mono (by simp));have HX5:=hid hx5;have HZ5:bG (w.heap.size+2<=w5.heap.size):=hid (by have:=t.size;simp at this;omega);have HS3:=hid (Bx.new w5 nil3 47 (b:=w5.heap.size) D);clear hs5 hn5 t hx5 I)
  | (refine wpList_store_mid D 41 _ _ D w.heap.size 0 (υ X SX).toArray D D (HB45.out.there 0 75 (by rw[dG];omega)) cn (iq _ _ (kC HS5.out)) ?_
     refine Pl.cutL (λι=>FI q w δ X SX [] G ι/\Bx ι w5.heap.size nil3) ⟨FI.of H.out W.out.2 HL5.out HB45.out (dG _ _) HB85.out HJ5.out (λk e=>by cases e) HS6.out L.out (λj hj a m c e _ e'=>by cases e'),DW.bb HS3.out (by have:=HZ5.out;omega)⟩ ?_;rintro Y1 ⟨hY1,hY1s⟩;have HY1:=hid hY1;have HY1s:=hid hY1s;clear hY1 hY1s)
  | (refine wpList_store_mid D 47 _ _ D w5.heap.size 0 #[κ a1 m1 c1,κ a2 m2 c2,κ a3 m3 c3] D D (HY1s.out.there 0 3 (by simp)) kX (lH _ _ _ _ _ _ _ _ _) ?_
     refine Pl.cutL (FI q w δ X SX [] G) (HY1.out.far H.out W.out.2 HZ5.out (λj hj a m c e hm=>i6 (HS5.out.lt j hj a m c e hm)) (by simp) _) ?_;intro Y2 hY2;have y:=hid hY2;clear hY2))
 clear HB4 HB8 HB45 HB85 HJ1 HJ5 HL1 HL5 HS3 HS5 HS6 HY1 HY1s HZ5 L HR0;by_cases hr:r=0
 case neg =>
  have F:=hid hr
  go_wp2_with (refine wpList_store_mid D 41 _ _ D (w.heap.size+1) 0 (υ aD aP).toArray D D (y.out.rb.there 0 75 (by rw[dG];omega)) cn (iq _ _ vS) ?_
               refine Pl.cutL (FR q w δ aD aP _ _) (FI.ret H.out W.out.2 y.out (Aa _) (A7 _)) ?_;intro V U;have p:=hid U;clear U)
  refine Ξ (v:=Ψ #[ac (υ aD aP).toArray,ν ξ,J Q r]) ?_ D ⟨aD,aP,ξ,r,_,_,D,aj ⟨F.out,D,D,aj (by unfold jz;rw[<- HRE.out,ae F.out])⟩,p.out.jj,p.out.sl,p.out.low,p.out.nw.mono (by omega)⟩;have l1:=run_loadVar_mid V (w.heap.size+1) 0 41 _ _ p.out.rb.c underlying41 D cn;simp only[results,results50];simp;show (aE (bL ω (bC 41 ⟨w.heap.size+1,0,G⟩) V) _)=_;rw[l1];rfl
 case pos =>
  subst hr;have B:=HRE.out.symm;have h1:M.chk=0:=by
   unfold bS at B;split at B
   ·assumption
   ·exact B
  have h2:chkIn l M.clock=0:=by
   unfold bS at B;rw[am h1] at B;split at B
   ·assumption
   ·exact B
  have hX:=(HX5.out D).1;have hXM:X=M:=hX;subst hXM;have hfit:=(HX5.out D).2;have F:=hid (InR.of h2 HDN.out);have HFIT:=hid hfit;have hcl:=hfit.clock;obtain⟨cl0,cl1⟩:=hcl;have x72:=y.out.bx.at 72 (J Q X.clock) D;have xz:=y.out.bx.z;clear hX B h1 h2 hfit;by_cases hg:0<=n/\n<=500/\X.clock+n<=200000
  case neg =>
   have HG:bG (jz X l n=3):=hid (by unfold jz;rw[<- HRE.out,am D,ae hg]);have hc:n<0 \/ (¬ n<0/\500<n) \/ (¬ n<0 /\ ¬ 500<n/\200000<X.clock+n/\IntKind.i64.wrap (X.clock+n)=X.clock+n):=by
    rw[aH];omega
   clear hg;rcases hc with g1|⟨g1,g2⟩|⟨g1,g2,g3,g4⟩
   all_goals
    go_wp2_with (refine wpList_store_mid D 41 _ _ D (w.heap.size+1) 0 (υ aD aP).toArray D D (y.out.rb.there 0 75 (by rw[dG];omega)) cn (iq _ _ vS) ?_
                 refine Pl.cutL (FR q w δ aD aP _ _) (FI.ret H.out W.out.2 y.out (Aa _) (A7 _)) ?_;intro V U;have p:=hid U;clear U)
    refine Ξ (v:=Ψ #[ac (υ aD aP).toArray,ν ξ,J Q 3]) ?_ D ⟨aD,aP,ξ,3,_,_,D,aj ⟨by decide,D,D,aj HG.out.symm⟩,p.out.jj,p.out.sl,p.out.low,p.out.nw.mono (by omega)⟩;have l1:=run_loadVar_mid V (w.heap.size+1) 0 41 _ _ p.out.rb.c underlying41 D cn;simp only[results,results50];simp;show (aE (bL ω (bC 41 ⟨w.heap.size+1,0,G⟩) V) _)=_;rw[l1];rfl
  case pos =>
   obtain⟨g0,g1,g2⟩:=hg;have HG:bG (jz X l n=0):=hid (by unfold jz;rw[<- HRE.out,am D,am ⟨g0,g1,g2⟩]);obtain⟨N,rfl⟩:=aA g0;obtain⟨M,hM⟩:∃ M,M=X:=⟨_,D⟩
   subst hM;have k1:¬ (N:Int)<0:=by omega
   have k2:¬ 500<(N:Int):=by omega
   have k3:¬ 200000<M.clock+(N:Int):=by omega
   have k4:IntKind.i64.wrap (M.clock+(N:Int))=M.clock+N:=by rw[aH];omega
   have L:bG (N<=500):=hid (by omega);have HCL:bG (0<=M.clock/\M.clock+N<=200000):=hid ⟨cl0,g2⟩;have HTN:bG (((N:Int)).toNat=N):=hid (by simp);clear g0 g1 g2;go_wp2;clear x72 xz k1 k2 k3 k4;go_loopw [12] (λv12 wr=>∃(j:Nat) (js:List Nat) (X:Mach) (SX:Sl) (g:Option Nat),v12=J Q 0/\Way M l N js j/\(∀ i∈js,b (M.aft l i)=ξ)/\X=M.aft l j/\X.fit/\FI q w δ X SX ((js.map (λi=>f (M.aft l i))).flatten) g wr) (λ_ wr=>M.clock.toNat+N-pU w.heap.size wr)
   case atStart=>exact⟨0,[],M,SX,G,D,Way.nil,λi hi=>by simp at hi,D,HFIT.out,y.out⟩
   case round =>
    clear y HX5;obtain⟨j,js,X,s,g,rfl,hWy,hbs,hX,hfx,hI⟩:=hrel;have hXc:X.clock=M.clock+j:=by rw[hX];exact wG F.out j
    have hle:=hWy.le F.out;have x72:=hI.bx.at 72 (J Q X.clock) D;have xz:=hI.bx.z;have o:=hid hI;have HWY:=hid hWy;have HBS:=hid hbs;have HX:=hid hX;have HFX:=hid hfx;have HXE:=hid hXc;have HLE:=hid hle;clear hWy hbs hX hfx hI;by_cases hlt:j<N
    ·have hd1:X.clock<M.clock+(N:Int):=by omega
     have hlk:=HLK.out ((js.map (λi=>f (M.aft l i))).flatten) g X s wr o.out.jj (o.out.low.below0 HLW.out W.out.1) o.out.sl HFX.out (by have:=zqy HF2.out (M.aft l) js;have:=L.out;omega);obtain⟨bb,hbb⟩:∃ bb,bb=b X:=⟨_,D⟩
     rw[<- hbb] at hlk;have HLX:=hid hlk;have HBB:=hid hbb;have HXC:bG (0<=X.clock/\X.clock<=200000):=hid (by have:=HCL.out;have:=HXE.out;omega);have Z:=hid hlt;have HIB:=hid o.out.bx;clear hlk hbb hlt hle hXc;cases bb
     ·obtain⟨dd,hdd⟩:∃ dd,dd=wnx M l N j-j:=⟨_,D⟩
      have hwi:min X.next (M.clock+(N:Int))-X.clock=(dd:Int):=by rw[HXE.out,HX.out,hdd];exact zvc F.out Z.out
      have hdb:=zqx F.out Z.out;have hdf:IntKind.i64.wrap (min X.next (M.clock+(N:Int))-X.clock)=(dd:Int):=by rw[hwi,aH];have:=L.out;omega
      have hrun:∀(v1:π) (ι:u),Below w0.heap.size w0 ι->cf ι s X->bP w0.heap.size ι v1 (comes X.clock l)->Δ ω 9 #[ac (υ X s).toArray,v1,J Q dd] ι λe w'=>∃(X':Mach) (S':Sl) (a1 a2 a3:Option Addr) (n1 n2 n3 c1 c2 c3:Nat),e=μ (Ψ #[ac (υ X' S').toArray,ac #[κ a1 n1 c1,κ a2 n2 c2,κ a3 n3 c3],J Q (bS X (comes X.clock l) dd)])/\cf w' S' X'/\gA ι.heap.size S'/\Below ι.heap.size ι w'/\(bS X (comes X.clock l) dd=0->X'=X.aft (comes X.clock l) dd/\X'.fit):=λv1 ι hb hs hi=>by
       have hI:InR X (comes X.clock l):=by have:=F.out.aft j;rw[<- HX.out,<- HXE.out] at this;exact this
       exact zi1 X s v1 (comes X.clock l) dd ι hs (λk hk=>ax (zF HFX.out k hk) (by decide)) { HFX.out with main:=HFX.out.main } (xj HSH.out (hb.block _ (AT HSH.out))) (hi.mono hb.size) hI.dn (by have:=L.out;omega)
      obtain⟨r2,hr2⟩:∃ r2,r2=bS X (comes X.clock l) dd:=⟨_,D⟩
      rw[<- hr2] at hrun;have HRUN:=hid hrun;have HR2:=hid hr2;have HDD:=hid hdd;have HDB:=hid hdb;have HWI:=hid hwi;clear hrun hr2 hdd hdb hwi;go_wp2_with (first
       | (refine wpList_load_mid D 41 _ D w.heap.size 0 D (υ X s) _ o.out.bx.c underlying41 D cn ?_)
       | (refine HLX.out.mono ?_;rintro e wl ⟨rfl,g2,hj2,hg2,hl2⟩;have HI:=hid (o.out.look W.out.2 hl2 hj2 hg2);clear hj2 hg2 hl2))
      refine qp (S:=λw'=>Bx w' w.heap.size (υ X s)) (st:=12) (by kernel_rfl) ?_;have P:=HI.out.bx.drew;refine b8 1 (λ_=>P) ?_;refine b8 2 (λ_=>P) ?_;refine b8 7 (λ_=>P) ?_;refine b8 9 (λ_=>P) ?_;refine sf [] 0 (ac (υ X s).toArray) D (λw' R=>ml 41 _ D w.heap.size 0 D (υ X s) _ R.c underlying41 D cn) P ?_;refine sf [6] 5 (ac (υ X s).toArray) D (λw' R=>ml 41 _ D w.heap.size 0 D (υ X s) _ R.c underlying41 D cn) P ?_;refine kU [4] 3 (λ_ R=>R.at 72 (J Q X.clock) D) P ?_;refine kU [11] 10 (λ_ R=>R.at 72 (J Q X.clock) D) P ?_;refine jy 4 (λK hK=>?_);go_simp;go_at_call 96
      refine(Wc.coming l v w0.heap.size X.clock _ (HIN.out.kept (HI.out.low.below0 HLW.out W.out.1).drew)).mono ?_;rintro e w1 ⟨⟨v1,rfl,hin1⟩,rfl⟩;have HI1:=hid (HI.out.kept H.out (aR wl).drew);have HN1:=hid hin1;clear hin1;try go_wp2_with fail
      refine jV hK (λ_=>HI1.out.bx) ?_;clear hK K;clear P;have P:=HI1.out.bx;refine jy 6 (λK hK=>?_);go_simp;go_at_call 97
      refine(Wc.next X s HXC.out _).mono ?_;rintro e w2 ⟨rfl,hb2⟩;have E:=hid (HI1.out.kept H.out hb2);have HB2:=hid hb2;clear hb2;try go_wp2_with fail
      refine jV hK (λ_=>E.out.bx) ?_;clear hK K;clear P;have P:=E.out.bx;refine b8 8 (λ_=>P) ?_;refine b8 11 (λ_=>P) ?_;refine jy 12 (λK hK=>?_);go_simp;go_at_call 9
      refine(HRUN.out v1 w2 (E.out.low.below0 HLW.out W.out.1) E.out.sl (HN1.out.kept (HB2.out.mono (ax HZ0.out HI1.out.low.size)))).mono ?_;rintro e w3 ⟨X',S',a1,a2,a3,n1,n2,n3,c1,c2,c3,rfl,hs3,hn3,hb3,hx3⟩;have HI3:=hid (E.out.kept H.out hb3);have HS3:=hid hs3;have HN3:bG (gA (w.heap.size+2) S'):=hid (hn3.mono E.out.rb.z);have HO3:bG (sR g2 S'):=hid (λj hj a m c e _ e'=>by have:=H.out.g _ _ _ E.out.jj _ e';have:=hn3 j hj a m c e;omega);have HX3:=hid hx3;clear hs3 hn3 hb3 hx3;try go_wp2_with fail
      refine jV hK (λh=>by simp at h) ?_;clear hK K;clear P;refine b8 13 (λh=>by simp at h) ?_;refine b8 14 (λh=>by simp at h) ?_;refine b8 15 (λh=>by simp at h) ?_;refine b8 16 (λh=>by simp at h) ?_;refine jy 17 (λK hK=>?_);refine pH D 41 _ _ D w.heap.size 0 (υ X' S').toArray D D (HI3.out.bx.there 0 75 (by rw[dG];omega)) cn (iq _ _ (kC HS3.out)) ?_;refine hK.out _ _ (λh=>by simp at h) ?_;clear hK K;refine b8 18 (λh=>by simp at h) ?_;refine pq (by kernel_rfl) ?_ _;refine Pl.cutE (FI q w δ X' S' ((js.map (λi=>f (M.aft l i))).flatten++f X) g2) (HI3.out.put H.out W.out.2 HS3.out HN3.out HO3.out) ?_;intro V3 hV3;have HV3:=hid hV3;clear hV3 HI HI1 E HI3 o HB2 HN1 HLX hdf;by_cases hr3:r2=0
      ·subst hr3
       go_wp2;refine⟨⟨wnx M l N j,js++[j],X',S',g2,D,Way.cons HWY.out Z.out,?_,?_,(HX3.out D).2,?_⟩,?_⟩
       ·intro i hi
        rcases cO.1 hi with hi|hi
        ·exact HBS.out i hi
        ·rw[dD.1 hi,<- HX.out];exact HBB.out.symm
       ·rw[(HX3.out D).1,HX.out,wG F.out j,<- zva F.out,HDD.out]
        congr 1;have:=HDB.out;omega
       ·rw[gQ,nQ]
        simp only[cI,dQ,jT,pa,cH,<- HX.out];exact HV3.out
       ·rw[zyh HV3.out.bx,zyh HIB.out,(HX3.out D).1]
        have e1:(X.aft (comes X.clock l) dd).clock=M.clock+(wnx M l N j:Nat):=by
         rw[HX.out,wG F.out j,<- zva F.out,wG F.out,HDD.out];have:=HDB.out;omega
        rw[e1,HXE.out];have:=HDB.out;have:=HCL.out;have:=Z.out;omega
      ·have HR3:=hid hr3
       go_wp2_with (refine wpList_store_mid D 41 _ _ D (w.heap.size+1) 0 (υ aD aP).toArray D D (HV3.out.rb.there 0 75 (by rw[dG];omega)) cn (iq _ _ vS) ?_
                    refine Pl.cutL (FR q w δ aD aP _ _) (FI.ret H.out W.out.2 HV3.out (Aa _) (A7 _)) ?_;intro V U;have p:=hid U;clear U)
       refine Ξ (v:=Ψ #[ac (υ aD aP).toArray,ν ξ,J Q r2]) ?_ D ⟨aD,aP,ξ,r2,_,_,D,aj ⟨HR3.out,D,D,ao ⟨HG.out,Wc.long HFIT.out F.out L.out HCL.out Z.out HX.out HFX.out HDD.out (HR2.out ▸ HR3.out)⟩⟩,p.out.jj,p.out.sl,p.out.low,p.out.nw.mono (by omega)⟩;have l1:=run_loadVar_mid V (w.heap.size+1) 0 41 _ _ p.out.rb.c underlying41 D cn;simp only[results,results50];simp;show (aE (bL ω (bC 41 ⟨w.heap.size+1,0,G⟩) V) _)=_;rw[l1];rfl
     ·go_wp2_with (first
       | (refine wpList_load_mid D 41 _ D w.heap.size 0 D (υ X s) _ HI.out.bx.c underlying41 D cn ?_)
       | (refine wpList_load_mid D 41 _ D w.heap.size 0 D (υ X s) _ o.out.bx.c underlying41 D cn ?_)
       | (refine HLX.out.mono ?_;rintro e wl ⟨rfl,g2,hj2,hg2,hl2⟩;have HI:=hid (o.out.look W.out.2 hl2 hj2 hg2);clear hj2 hg2 hl2)
       | (refine wpList_store_mid D 41 _ _ D (w.heap.size+1) 0 (υ X s).toArray D D (HI.out.rb.there 0 75 (by rw[dG];omega)) cn (iq _ _ (kC HI.out.sl)) ?_
          refine Pl.cutL (FR q w δ X s _ _) (FI.ret H.out W.out.2 HI.out HI.out.sl HI.out.nw) ?_;intro V U;have p:=hid U;clear U))
      refine Ξ (v:=Ψ #[ac (υ X s).toArray,ν Γ,J Q 0]) ?_ D ⟨X,s,Γ,0,_,_,D,ao ⟨D,HG.out,HFIT.out,F.out,js,j,by rw[HTN.out];exact HWY.out,HX.out,HBS.out,ao ⟨D,by rw[HTN.out];exact Z.out,HBB.out.symm,D⟩⟩,p.out.jj,p.out.sl,p.out.low,p.out.nw.mono (by omega)⟩;have l1:=run_loadVar_mid V (w.heap.size+1) 0 41 _ _ p.out.rb.c underlying41 D cn;simp only[results,results50];simp;show (aE (bL ω (bC 41 ⟨w.heap.size+1,0,G⟩) V) _)=_;rw[l1];rfl
    ·have hd1:¬ X.clock<M.clock+(N:Int):=by omega
     have HJN:bG (j=N):=hid (by omega);clear hlt hle hXc;go_wp2_with (first
      | (refine wpList_load_mid D 41 _ D w.heap.size 0 D (υ X s) _ o.out.bx.c underlying41 D cn ?_)
      | (refine wpList_store_mid D 41 _ _ D (w.heap.size+1) 0 (υ X s).toArray D D (o.out.rb.there 0 75 (by rw[dG];omega)) cn (iq _ _ (kC o.out.sl)) ?_
         refine Pl.cutL (FR q w δ X s _ _) (FI.ret H.out W.out.2 o.out o.out.sl o.out.nw) ?_;intro V U;have p:=hid U;clear U))
     refine Ξ (v:=Ψ #[ac (υ X s).toArray,ν ξ,J Q 0]) ?_ D ⟨X,s,ξ,0,_,_,D,ao ⟨D,HG.out,HFIT.out,F.out,js,j,by rw[HTN.out];exact HWY.out,HX.out,HBS.out,aj ⟨D,by rw[HTN.out];exact HJN.out,D⟩⟩,p.out.jj,p.out.sl,p.out.low,p.out.nw.mono (by omega)⟩;have l1:=run_loadVar_mid V (w.heap.size+1) 0 41 _ _ p.out.rb.c underlying41 D cn;simp only[results,results50];simp;show (aE (bL ω (bC 41 ⟨w.heap.size+1,0,G⟩) V) _)=_;rw[l1];rfl
theorem Wc.many(g o n a:Nat)(rom:List UInt8)(h:rom.length=n)(pc:Nat)(hp:pc<=65535)(hc:n<=a)(L:n<=9223372036854775807)(B:2<=n-pc)(w:u)(E:g<w.heap.size)(hb:iJ w g o rom)(q:AF w):Δ ω 99 #[κ (A ⟨g,o,G⟩) n a,J Y pc] w λe w'=>e=μ (Ω (aT (cZ rom pc)))/\Below w.heap.size w w':=by
 obtain⟨m,y⟩:∃ m,m=min ((n-pc)/2*2) 4:=⟨_,D⟩
 have z:min (pc:Int) (n:Int)=(pc:Int):=by omega
 have h1:pc<=n:=by omega
 have h2:pc<=a:=by omega
 have h3:decide (((n-pc:Nat):Int)<2)=ξ:=by simp;omega
 have F:¬ (((n-pc:Nat):Int)<2):=by omega
 have M:IntKind.i64.wrap (pc:Int)=pc:=by rw[aH];omega
 have H:min (((n-pc:Nat):Int)/2*2) 4=(m:Int):=by omega
 have i:jF w (κ (A ⟨g,o+pc,G⟩) m (a-pc)) ((rom.drop pc).take m):=ao ⟨g,o+pc,(a-pc),by rw[bD,cW,h,jv (by omega)],by rw[bD,cW,h];omega,E,λj c r=>by
  have s:j<m:=by
   have:=(ay.1 r).1;rw[bD] at this;omega
  rw[dN s] at r;exact hb.drop pc j c r⟩
 have d:((rom.drop pc).take m).length=m:=by rw[bD,cW,h];omega
 have f:oG ((rom.drop pc).take m)=(S.list ((rom.drop pc).take m),0):=by
  unfold oG;rw[d,ae (by omega),ae (by omega)]
 have t:=hid (zvJ _ _ w i q);rw[f] at t;obtain⟨T,p⟩:∃ T,T=S.list ((rom.drop pc).take m):=⟨_,D⟩
 have k:T.length<=10000:=by
  rw[p];unfold S.list;have:=zfn ((rom.drop pc).take m).length ((rom.drop pc).take m);omega
 have b:cZ rom pc=(Lib.cut T [10]).1:=by
  unfold cZ;rw[h,ae (by omega),<- y,<- p]
 rw[<- p] at t;rw[b];have I:=hid q;have v:=hid k;have h4:m<=(a-pc):=by omega
 have N:m<=n-pc:=by omega
 have P:¬ a=pc:=by omega
 clear f b p k d i q hb y B h;go_enter func99,ntmps99;go_wp2_with (first
  | (go_at_call 53;refine(Wc.cut T v.out _ (I.out.kept l)).mono ?_;rintro e w2 ⟨rfl,x⟩)
  | (go_at_call 174;refine t.out.mono ?_;rintro e w1 ⟨rfl,l⟩))
 go_ret;exact⟨D,bw l x⟩
theorem Wc.text(v:π)(rom:List UInt8)(pc:Int)(hp:0<=pc/\pc<=65535)(w:u)(f:sliceAt w v rom)(i:rom.length<=1024)(h:AF w):Δ ω 99 #[v,J Y pc] w λe w'=>e=μ (Ω (aT (cZ rom pc.toNat)))/\Below w.heap.size w w':=by
 obtain⟨p,rfl⟩:=aA hp.1;rw[bR];have c:p<=65535:=by omega
 rcases f with⟨a,b,rfl,rfl⟩|⟨g,o,b,rfl,h2,h3,h4⟩
 ·refine(Wc.few a 0 b p c (bh _) (by omega) (by omega) w).mono ?_
  rintro e w' ⟨rfl,rfl⟩;exact⟨by unfold cZ;rw[am (by simp)],aR _⟩
 ·by_cases d:rom.length-p<2
  ·refine(Wc.few _ rom.length b p c h2 (by omega) d w).mono ?_
   rintro e w' ⟨rfl,rfl⟩;exact⟨by unfold cZ;rw[am d],aR _⟩
  ·exact Wc.many g o rom.length b rom D p c h2 (by omega) (by omega) w h3 h4 h
def Mach.mdue(M:Mach):Bool:=decide (M.mready<=M.clock) && (!M.main.Waits && !(M.main.May && (M.t.g || M.b.g)))
def Mach.adue(M:Mach):Bool := !M.held && decide (M.aready<=M.clock) && (!M.aux.Waits && !(M.aux.May && M.rung))
def Mach.mdid(M:Mach):List Dd:=if M.mdue then [⟨M.clock,ξ,M.main.PC,cZ M.mrom M.main.PC.toNat⟩] else []
def Mach.adid(M:Mach):List Dd:=if M.adue then [⟨M.clock,Γ,M.aux.PC,cZ M.arom M.aux.PC.toNat⟩] else []
def Mach.due(M:Mach):List Dd:=M.mdid++M.adid
structure WD (w : u) (M : Mach) (S : Sl) (ι : u) : Prop where
 low:Below w.heap.size w ι
 bx:Bx ι w.heap.size (υ M S)
theorem WD.kept{w:u}{M:Mach}{S:Sl}{ι Y':u}(h:WD w M S ι)(hb:Below ι.heap.size ι Y'):WD w M S Y':=⟨bw h.low hb,h.bx.kept hb⟩
--MID
theorem WD.s3{w:u}{M:Mach}{S:Sl}{ι:u}(h:WD w M S ι):ι.cell? ⟨w.heap.size,72,G⟩=A (J Q M.clock)/\ι.cell? ⟨w.heap.size,8,G⟩=A (J Y M.main.PC)/\ι.cell? ⟨w.heap.size,30,G⟩=A S.mr:=⟨h.bx.at 72 _ rfl,h.bx.at 8 _ rfl,h.bx.at 30 _ rfl⟩
theorem WD.s5{w:u}{M:Mach}{S:Sl}{ι:u}(h:WD w M S ι):ι.cell? ⟨w.heap.size,72,G⟩=A (J Q M.clock)/\ι.cell? ⟨w.heap.size,23,G⟩=A (J Y M.aux.PC)/\ι.cell? ⟨w.heap.size,31,G⟩=A S.ar:=⟨h.bx.at 72 _ rfl,h.bx.at 23 _ rfl,h.bx.at 31 _ rfl⟩
theorem WD.grown{w:u}{M:Mach}{S:Sl}{ι Y':u}{v:π}{n:Nat}{xs:List π}{t:aJ}{z:Nat}(h:WD w M S ι)(b:ι.ownsRow (w.heap.size+1) t z v n xs)(a:ι.grownBy Y' v.ownBlock):WD w M S Y' :=
 ⟨h.low.grown a h.low.size (λk e=>by have:=(jE b k e).1;omega),h.bx.same a.size (a.block _ h.bx.z (λe=>by have:=(jE b _ e.symm).1;omega))⟩
theorem yA{B:Nat}{t:aJ}{z n:Nat}{v:π}{xs:List π}{ι Y':u}(h:ι.ownsRow B t z v n xs)(hb:Below ι.heap.size ι Y'):Y'.ownsRow B t z v n xs :=
 h.kept (rx hb) (by cases e:v.ownBlock with|none=>exact aj rfl|some g=>exact ao (by simp))
theorem zgW{P:Program}{a:Act}{o:Oper}{w:u}(t:aJ)(i j k l:Nat)(x y z θ:Operand)(g:o.op=.build t #[(i,x),(j,y),(k,z),(l,θ)])(c d e f v:π)(h:a.eval x=c)(m:a.eval y=d)(n:a.eval z=e)(p:a.eval θ=f)
 (b:(dw t #[(i,c),(j,d),(k,e),(l,f)]).run P w=.ok v w):(execOp a.eval o).run P w=.ok (.value v) w :=
 zdF t _ g v (by simp only[fy,cI,dQ,h,m,n,p];exact b)
theorem zqz(c p:Int)(t:List UInt8)(w:u):(dw 78 #[(0,J Q c),(2,J Y p),(3,Ω (aT t))]).run ω w=.ok (ac (ib ⟨c,ξ,p,t⟩).toArray) w:=by kernel_rfl
theorem zqA(c p:Int)(t:List UInt8)(w:u):(dw 78 #[(0,J Q c),(1,ν Γ),(2,J Y p),(3,Ω (aT t))]).run ω w=.ok (ac (ib ⟨c,Γ,p,t⟩).toArray) w:=by kernel_rfl
theorem zfX(x:Dd)(w:u):(gx 70 1 #[(0,ac (ib x).toArray)]).run ω w=.ok (κ (A ⟨w.heap.size,0,G⟩) 1 1) (w.alloc (χ (ib x).toArray 78)):=by kernel_rfl
theorem A8:(Tryz.prog.info? 78).map (λi=>(i.zero,i.size,i.bytes))=A (A (ac #[J Q 0,ν ξ,J Y 0,Ω ⟨#[]⟩]),4,32):=by kernel_rfl
theorem A9(x:Dd):∀ θ∈ib x,θ.oneCell'=Γ:=λθ a=>by
 simp only[ib,bp,cz,gC] at a;rcases a with rfl|rfl|rfl|rfl <;> rfl
theorem Ba{B:Nat}{t:aJ}{z n:Nat}{v:π}{xs:List π}{ι:u}(h:ι.ownsRow (B+1) t z v n xs):ι.ownsRow B t z v n xs:=by
 obtain⟨e,h|⟨g,c,fr,h1,h2,h3⟩⟩:=h
 ·exact⟨e,aj h⟩
 ·exact⟨e,ao ⟨g,c,fr,h1,by omega,h3⟩⟩
theorem WD.auxR{w:u}{M:Mach}{S:Sl}{ι:u}(h:WD w M S ι):ι.rangeAt w.heap.size 15 (bY M.aux):=λi v hi=>by
 refine h.bx.at (15+i) v ?_;have a:=(ay.1 hi).1;unfold υ;rw[aY (by show 15<=15+i;omega),bc (by show 15+i-15<_;omega),show 15+i-(bY M.main).length=i by show 15+i-15=i;omega];exact hi
theorem zpc(l:List Dd)(x:Dd):lE (l++[x])=lE l++ib x:=by simp[lE]
theorem Wc.due(M:Mach)(S:Sl)(w:u)(hs:cf w S M)(hf:M.fit)(hF:AF w):Δ ω 52 #[ac (υ M S).toArray] w λe w'=>∃ v,e=μ v/\w'.ownsRow w.heap.size 78 4 v M.due.length (lE M.due)/\Below w.heap.size w w':=by
 have hW:WD w M S (w.alloc (χ (υ M S).toArray 41)):=⟨stA (aR w) _,Bx.new w (υ M S) 41 (b:=w.heap.size) D⟩
 have F:=hid hW;have HS:=hid hs;have H:=hid hf;have HF:=hid hF;clear hW hs hf hF;go_enter func52,ntmps52;go_upto_region 2 with fail
 go_cut [1,3,21] (λv1 v3 v21 ι=>v1=pt w.heap.size 0/\v3=κ G 0 0/\v21=ν M.mdue/\WD w M S ι)
 case first =>
  have x72:=F.out.bx.at 72 (J Q M.clock) D;have x73:=F.out.bx.at 73 (J Q M.mready) D;have x44:=F.out.bx.at 44 (ν M.t.g) D;have x63:=F.out.bx.at 63 (ν M.b.g) D;have hz:=F.out.bx.z;have N1:bG ((w.alloc (χ (υ M S).toArray 41)).rangeAt w.heap.size 0 (bY M.main)):=hid (λj v hj=>by rw[aX];exact F.out.bx.at j v (by unfold υ;rw[bc (ay.1 hj).1];exact hj));have r:bG (M.mdue=(decide (M.mready<=M.clock) && (!M.main.Waits && !(M.main.May && (M.t.g || M.b.g))))):=hid D;obtain⟨tg,htg⟩:∃ b,b=M.t.g:=⟨_,D⟩
  rw[<- htg] at x44 r;clear htg;by_cases I:M.mready<=M.clock
  ·have hd:decide (M.mready<=M.clock)=Γ:=aO I
   rw[hd] at r;clear I;cases tg;all_goals
    go_wp2_with (first
     | (go_at_call 98;refine(zqw M.main _ _).mono ?_;rintro e w1 ⟨rfl,s⟩;have R:=hid (F.out.kept s))
     | (refine Bu.loadG D 25 _ D w.heap.size 0 D (bY M.main) _ N1.out underlying25 D sX ?_))
    go_meet;exact⟨D,D,by rw[r.out];simp,R.out⟩
  ·have hd:decide (M.mready<=M.clock)=ξ:=aG I
   rw[hd] at r;clear I;go_wp2;go_meet;exact⟨D,D,by rw[r.out];rfl,F.out⟩
 case rest =>
  obtain⟨rfl,rfl,rfl,hY⟩:=hcut;have o:=hid hY;have T:bG (wc.ownsRow (w.heap.size+1) 78 4 (κ G 0 0) ([]:List Dd).length (lE [])):=hid ⟨D,aj ⟨D,D⟩⟩;have n:bG (([]:List Dd).length<=1):=hid (bh _);have x:bG (M.mdid=if M.mdue then [⟨M.clock,ξ,M.main.PC,cZ M.mrom M.main.PC.toNat⟩] else []):=hid D;obtain⟨md,hmd⟩:∃ b,b=M.mdue:=⟨_,D⟩
  rw[<- hmd] at x ⊢;clear hY hmd F;cases md
  case' true =>
   go_wp2;refine wp_region_held_drew (S:=λw'=>w'.cell? ⟨w.heap.size,72,G⟩=A (J Q M.clock)/\w'.cell? ⟨w.heap.size,8,G⟩=A (J Y M.main.PC)/\w'.cell? ⟨w.heap.size,30,G⟩=A S.mr) (by kernel_rfl) (o.out.s3) ?_;intro a;refine dy 0 ⟨A 22,_,_,_,_,G⟩ a ?_;simp only[ag,xA,xB,xC];refine dy 1 ⟨A 23,_,_,_,_,G⟩ a ?_;simp only[ag,xA,xB,xC];refine dy 3 ⟨A 25,_,_,_,_,G⟩ a ?_;simp only[ag,xA,xB,xC];refine dy 4 ⟨A 26,_,_,_,_,G⟩ a ?_;simp only[ag,xA,xB,xC];refine dy 6 ⟨A 28,_,_,_,_,G⟩ a ?_;simp only[ag,xA,xB,xC];refine dy 8 ⟨A 30,_,_,_,_,G⟩ a ?_;simp only[ag,xA,xB,xC];refine dy 9 ⟨A 31,_,_,_,_,G⟩ a ?_;simp only[ag,xA,xB,xC];refine nU 2 (λ_ c=>c.1) a ?_;refine nU 5 (λ_ c=>c.2.1) a ?_;refine nU 7 (λ_ c=>c.2.2) a ?_;refine nU 10 (λ_ c=>c.2.1) a ?_;refine gy 11 (λK k=>?_);go_simp;go_at_call 99
   refine(Wc.text S.mr M.mrom M.main.PC H.out.main.2.2 _ (HS.out.kept o.out.low.drew 0 (by decide)) H.out.mrom (HF.out.kept o.out.low.drew)).mono ?_;rintro e w2 ⟨rfl,d⟩;have l:=hid (o.out.kept (bw (aR wc).drew d));have L:=hid (yA T.out (bw (aR wc).drew d));clear d;try go_wp2_with fail
   refine gL k (l.out.s3) (λ_=>?_);clear k K;clear a;have a:=l.out.s3;refine jW 12 (ac (ib ⟨M.clock,ξ,M.main.PC,cZ M.mrom M.main.PC.toNat⟩).toArray) D (λw' _=>zE 78 0 2 3 _ _ _ D (J Q M.clock) (J Y M.main.PC) (Ω (aT (cZ M.mrom M.main.PC.toNat))) (ac (ib ⟨M.clock,ξ,M.main.PC,cZ M.mrom M.main.PC.toNat⟩).toArray) D D D (zqz _ _ _ w')) a ?_;refine gy 13 (λK k=>?_);refine xu D 70 1 0 _ D (ac (ib ⟨M.clock,ξ,M.main.PC,cZ M.mrom M.main.PC.toNat⟩).toArray) D (zfX ⟨M.clock,ξ,M.main.PC,cZ M.mrom M.main.PC.toNat⟩ _) ?_;have i:=hid (l.out.kept (stA (aR w2) (χ (ib ⟨M.clock,ξ,M.main.PC,cZ M.mrom M.main.PC.toNat⟩).toArray 78)));have p:=hid (yA L.out (stA (aR w2) (χ (ib ⟨M.clock,ξ,M.main.PC,cZ M.mrom M.main.PC.toNat⟩).toArray 78)));refine gL k (i.out.s3) (λ_=>?_);clear k K;clear a;have a:=i.out.s3;refine gy 14 (λK k=>?_);obtain⟨i1,U,V,W,X⟩:=info_parts A8;refine step_append_lies _ (by rfl) (.tmp 22) (.tmp 35) 70 (by rfl) (w.heap.size+1) 78 i1 _ 4 32 underlying70 U V W X D (by omega) (κ G 0 0) ([]:List Dd).length (lE ([]:List Dd)) D p.out ⟨w2.heap.size,0,G⟩ 1 1 (ib ⟨M.clock,ξ,M.main.PC,cZ M.mrom M.main.PC.toNat⟩) D D (xw _ w2) (A9 _) (by omega) (by unfold maxLen;have:=n.out;omega) (by have:=n.out;omega) (ax i.out.bx.z (ψ _)) _ D ?_
   intro g1 P W3 f y B Z;have N:=hid f;have m:=hid (i.out.grown p.out y);clear f y B Z;refine gL k (m.out.s3) (λ_=>?_);clear k K;clear a;have a:=m.out.s3;refine dy 15 ⟨A 3,_,_,_,_,G⟩ a ?_;simp only[ag,xA,xB,xC];refine wpAnyH_done (by kernel_rfl) ?_ _;go_simp;have E:bG (W3.ownsRow (w.heap.size+1) 78 4 (κ (A ⟨g1,0,G⟩) 1 P) M.mdid.length (lE M.mdid)):=hid (by rw[x.out];exact N.out);have h:=m;clear N m i p L l a T o n x
  case' false =>
   have E:bG (wc.ownsRow (w.heap.size+1) 78 4 (κ G 0 0) M.mdid.length (lE M.mdid)):=hid (by rw[x.out];exact T.out);have h:=o;clear T o n x
  all_goals
   go_upto_region 4 with fail
   go_cut [1,3,53] (λv1 v3 v53 ι=>v1=pt w.heap.size 0/\v53=ν M.adue/\WD w M S ι/\ι.ownsRow (w.heap.size+1) 78 4 v3 M.mdid.length (lE M.mdid))
   case first =>
    have x68:=h.out.bx.at 68 (ν M.held) D;have x71:=h.out.bx.at 71 (ν M.rung) D;have x72:=h.out.bx.at 72 (J Q M.clock) D;have x74:=h.out.bx.at 74 (J Q M.aready) D;have hz:=h.out.bx.z;have N2:=hid h.out.auxR;have q:bG (M.adue=(!M.held && decide (M.aready<=M.clock) && (!M.aux.Waits && !(M.aux.May && M.rung)))):=hid D;obtain⟨hd,hhd⟩:∃ b,b=M.held:=⟨_,D⟩
    rw[<- hhd] at x68 q;clear hhd;cases hd
    ·by_cases I:M.aready<=M.clock
     ·have hdd:decide (M.aready<=M.clock)=Γ:=aO I
      rw[hdd] at q;clear I;go_wp2_with (first
       | (go_at_call 98;refine(zqw M.aux _ _).mono ?_;rintro e w1 ⟨rfl,s⟩;have R:=hid (h.out.kept s);have HO4:=hid (yA E.out s);clear s)
       | (refine Bu.loadG D 25 _ D w.heap.size 15 D (bY M.aux) _ N2.out underlying25 D sX ?_))
      go_meet;exact⟨D,by rw[q.out];simp,R.out,HO4.out⟩
     ·have hdd:decide (M.aready<=M.clock)=ξ:=aG I
      rw[hdd] at q;clear I;go_wp2;go_meet;exact⟨D,by rw[q.out];rfl,h.out,E.out⟩
    ·go_wp2
     go_meet;exact⟨D,by rw[q.out];rfl,h.out,E.out⟩
   case rest =>
    obtain⟨rfl,rfl,hY,hO⟩:=hcut;have o:=hid hY;have T:=hid hO;have n:bG (M.mdid.length<=1):=hid (by unfold Mach.mdid;split <;> simp);have HAI:bG (M.adid=if M.adue then [⟨M.clock,Γ,M.aux.PC,cZ M.arom M.aux.PC.toNat⟩] else []):=hid D;obtain⟨ad,had⟩:∃ b,b=M.adue:=⟨_,D⟩
    rw[<- had] at HAI ⊢;clear hY hO had h E;cases ad
    ·go_wp2
     go_ret;exact⟨_,D,by show wc.ownsRow _ _ _ _ (M.mdid++M.adid).length (lE (M.mdid++M.adid));rw[HAI.out];simp only[cD,fj,cH];exact Ba T.out,o.out.low⟩
    ·go_wp2
     refine wp_region_held_drew (S:=λw'=>w'.cell? ⟨w.heap.size,72,G⟩=A (J Q M.clock)/\w'.cell? ⟨w.heap.size,23,G⟩=A (J Y M.aux.PC)/\w'.cell? ⟨w.heap.size,31,G⟩=A S.ar) (by kernel_rfl) (o.out.s5) ?_;intro a;refine dy 0 ⟨A 54,_,_,_,_,G⟩ a ?_;simp only[ag,xA,xB,xC];refine dy 1 ⟨A 55,_,_,_,_,G⟩ a ?_;simp only[ag,xA,xB,xC];refine dy 3 ⟨A 57,_,_,_,_,G⟩ a ?_;simp only[ag,xA,xB,xC];refine dy 4 ⟨A 58,_,_,_,_,G⟩ a ?_;simp only[ag,xA,xB,xC];refine dy 6 ⟨A 60,_,_,_,_,G⟩ a ?_;simp only[ag,xA,xB,xC];refine dy 8 ⟨A 62,_,_,_,_,G⟩ a ?_;simp only[ag,xA,xB,xC];refine dy 9 ⟨A 63,_,_,_,_,G⟩ a ?_;simp only[ag,xA,xB,xC];refine nU 2 (λ_ c=>c.1) a ?_;refine nU 5 (λ_ c=>c.2.1) a ?_;refine nU 7 (λ_ c=>c.2.2) a ?_;refine nU 10 (λ_ c=>c.2.1) a ?_;refine gy 11 (λK k=>?_);go_simp;go_at_call 99
     refine(Wc.text S.ar M.arom M.aux.PC H.out.aux.2.2 _ (HS.out.kept o.out.low.drew 1 (by decide)) H.out.arom (HF.out.kept o.out.low.drew)).mono ?_;rintro e w2 ⟨rfl,d⟩;have l:=hid (o.out.kept (bw (aR wc).drew d));have L:=hid (yA T.out (bw (aR wc).drew d));clear d;try go_wp2_with fail
     refine gL k (l.out.s5) (λ_=>?_);clear k K;clear a;have a:=l.out.s5;refine jW 12 (ac (ib ⟨M.clock,Γ,M.aux.PC,cZ M.arom M.aux.PC.toNat⟩).toArray) D (λw' _=>zgW 78 0 1 2 3 _ _ _ _ D (J Q M.clock) (ν Γ) (J Y M.aux.PC) (Ω (aT (cZ M.arom M.aux.PC.toNat))) (ac (ib ⟨M.clock,Γ,M.aux.PC,cZ M.arom M.aux.PC.toNat⟩).toArray) D D D D (zqA _ _ _ w')) a ?_;refine gy 13 (λK k=>?_);refine xu D 70 1 0 _ D (ac (ib ⟨M.clock,Γ,M.aux.PC,cZ M.arom M.aux.PC.toNat⟩).toArray) D (zfX ⟨M.clock,Γ,M.aux.PC,cZ M.arom M.aux.PC.toNat⟩ _) ?_;have i:=hid (l.out.kept (stA (aR w2) (χ (ib ⟨M.clock,Γ,M.aux.PC,cZ M.arom M.aux.PC.toNat⟩).toArray 78)));have p:=hid (yA L.out (stA (aR w2) (χ (ib ⟨M.clock,Γ,M.aux.PC,cZ M.arom M.aux.PC.toNat⟩).toArray 78)));refine gL k (i.out.s5) (λ_=>?_);clear k K;clear a;have a:=i.out.s5;refine gy 14 (λK k=>?_);obtain⟨i1,U,V,W,X⟩:=info_parts A8;refine step_append_lies _ (by rfl) (.tmp 54) (.tmp 67) 70 (by rfl) (w.heap.size+1) 78 i1 _ 4 32 underlying70 U V W X D (by omega) u3 M.mdid.length (lE M.mdid) D p.out ⟨w2.heap.size,0,G⟩ 1 1 (ib ⟨M.clock,Γ,M.aux.PC,cZ M.arom M.aux.PC.toNat⟩) D D (xw _ w2) (A9 _) (by omega) (by unfold maxLen;have:=n.out;omega) (by have:=n.out;omega) (ax i.out.bx.z (ψ _)) _ D ?_
     intro g1 P W3 f y B Z;have N:=hid f;have m:=hid (i.out.grown p.out y);clear f y B Z;refine gL k (m.out.s5) (λ_=>?_);clear k K;clear a;have a:=m.out.s5;refine dy 15 ⟨A 3,_,_,_,_,G⟩ a ?_;simp only[ag,xA,xB,xC];refine wpAnyH_done (by kernel_rfl) ?_ _;go_simp;go_wp2;go_ret;exact⟨_,D,by show W3.ownsRow _ _ _ _ (M.mdid++M.adid).length (lE (M.mdid++M.adid));rw[HAI.out,am trivial,zpc,az];exact Ba N.out,m.out.low⟩
/-! ### a string's reader, wherever it lies -/
theorem zzS(w:u)(B:Nat)(s:ByteArray)(i:Nat)(c:UInt8)(hb:w.heap[B]?=A (.stringIter s i))(hi:i<s.size)(hc:s[i]'hi=c)(b:c.toNat<128):∃ w',(∀ ty,(fs (aB (A ⟨B,0,G⟩)) Γ ty).run ω w=.ok (Ψ #[ν Γ,J Q i,J .i32 c.toNat]) w')/\w'.heap[B]?=A (.stringIter s (i+1))/\w.grownBy w' (A B):=by
 subst hc;refine⟨{ w with heap:=w.heap.setIfInBounds B (.stringIter s (i+1)) },λty=>?_,(eK hb).1,⟨D,D,D,by simp,λk d a=>(eK hb).2 k (λe=>a (by rw[e]))⟩⟩;simp only[fs,getObj,setObj,iB,bL,hb,aE,hi,fO,decode_ascii s i hi b];simp[goInt]
theorem zpg(w:u)(B:Nat)(s:ByteArray)(i:Nat)(hb:w.heap[B]?=A (.stringIter s i))(hi:¬ i<s.size)(ty:aJ):(fs (aB (A ⟨B,0,G⟩)) Γ ty).run ω w=.ok (Ψ #[ν ξ]) w:=by
 simp[fs,getObj,bL,hb,hi]
/-! ### the text, letter by letter -/
theorem zi2:∀ k,k<32->(S.parts k).map S.sgn=(K.row k).2.1:=by decide +kernel
def jI(k:Nat)(o:S.Ord)(j:Nat):S.By:=(K.row k).1++(if j=0 then [] else 32::fk (((S.parts k).take j).map (S.partText o)) S.comma)
theorem zmD(x:S.By):∀(p:S.By) (ps:List S.By),fk (p::ps++[x]) S.comma=fk (p::ps) S.comma++[44,32]++x
 | p,[]=>by rw[cV,iH,S.join_cons,S.join_one,S.join_one];simp
 | p,q::ps=>by
  have a:=zmD x q ps;rw[cV,cV,S.join_cons,S.join_cons];rw[cV] at a;rw[a];simp
theorem zqB{k:Nat}{o:S.Ord}{p:Nat}(h:(S.parts k)[0]?=A p):jI k o 1=jI k o 0++[32]++S.partText o p:=by
 unfold jI;rw[ae (by omega),am D,ek,h];simp[S.join_one]
theorem zeX{k:Nat}{o:S.Ord}{j p:Nat}(b:0<j)(h:(S.parts k)[j]?=A p):jI k o (j+1)=jI k o j++[44,32]++S.partText o p:=by
 unfold jI;rw[ae (by omega),ae (by omega),ek,h];have a:=(ay.1 h).1;cases hp:((S.parts k).take j).map (S.partText o) with
 | nil =>
  have:=congrArg List.length hp;rw[bf,bD,fY] at this;omega
 | cons q qs =>
  rw[gQ,hp,Option.toList_some,cI,dQ,zmD];simp
theorem zxH(k:Nat)(o:S.Ord):jI k o (S.parts k).length=S.orderText k o:=by
 unfold jI S.orderText;rw[ja];by_cases h:S.parts k=[]
 ·rw[h];rfl
 ·rw[ae (λe=>h (bM.1 e)),ae h]
theorem zxI{k:Nat}(b:k<32){o:S.Ord}(a:O.okB k o.d o.s o.n o.w=Γ)(j:Nat):(jI k o j).length<=60:=by
 have h1:(K.row k).1.length<=4:=by
  have:∀ k,k<32->(K.row k).1.length<=4:=by decide +kernel
  exact this k b
 unfold jI;rw[az];split
 ·simp;omega
 ·have h4:=yW k
  have:=zje (((S.parts k).take j).map (S.partText o)) (λp hp=>by obtain⟨q,_,rfl⟩:=gc.1 hp;exact zft a q);rw[bf,bD] at this;rw[cy];omega
theorem zBx(k:Nat)(c:k<32)(j p:Nat)(h:(S.parts k)[j]?=A p):∃ hi:j<(K.has k).size,(K.has k)[j]'hi=S.sgn p:=by
 have e:=zi2 k c;have a:((K.row k).2.1)[j]?=A (S.sgn p):=by rw[<- e,bn,h];rfl
 have b:=(ay.1 a).1;refine⟨b,?_⟩;exact Ah (K.has k) j (S.sgn p) a b
theorem zzT(k:Nat)(a:k<32):(K.has k).size=(S.parts k).length:=by
 have e:=congrArg List.length (zi2 k a);rw[bf] at e;exact e.symm
end Go.Proofs.YthghjlinhokimaaGreatDoor
namespace Go.Proofs.YthghjlinhokimaaGreatDoor
open Go.ChangeShapes Go.WideShapes Go.ChangeAt Go.RowKit Go.Proofs.Tryz
theorem zeh{w:u}(h:Facts w){o:Obj}:Facts (w.alloc o):=h.kept (stA (aR _) _)
theorem zfp{w:u}(h:Facts w):Facts w.drew:=h.kept (aR _).drew
structure refAt (w : u) (b c k : Nat) (d s n ww : Int) : Prop where
 k0:w.cell? ⟨b,0,G⟩=A (Ω (K.name k))
 k1:w.cell? ⟨b,1,G⟩=A (Ω (K.has k))
 k2:w.cell? ⟨b,2,G⟩=A (J Q (K.cyc k))
 o0:w.cell? ⟨c,0,G⟩=A (J Q k)
 o1:w.cell? ⟨c,1,G⟩=A (J Q d)
 o2:w.cell? ⟨c,2,G⟩=A (J Q s)
 o3:w.cell? ⟨c,3,G⟩=A (J Q n)
 o4:w.cell? ⟨c,4,G⟩=A (J Q ww)
 blt:b<w.heap.size
 clt:c<w.heap.size
theorem wP{w X w1:u}{k:Nat}{d s n ww:Int}{t:aJ}(a:Below (w.alloc (χ #[J Q k,J Q d,J Q s,J Q n,J Q ww] t)).heap.size (w.alloc (χ #[J Q k,J Q d,J Q s,J Q n,J Q ww] t)) X)(hb:Below X.heap.size X w1):w1.cell? ⟨w.heap.size,0,G⟩=A (J Q k)/\w.heap.size<w1.heap.size/\Below (w.alloc (χ #[J Q k,J Q d,J Q s,J Q n,J Q ww] t)).heap.size (w.alloc (χ #[J Q k,J Q d,J Q s,J Q n,J Q ww] t)) w1:=by
 have hB:=bw a hb;exact⟨(hB.cell (by simp)).trans (by simp),by have:=hB.size;simp at this;omega,hB⟩
theorem rQ{w w1:u}{k:Nat}{d s n ww:Int}{t:aJ}(hB:Below (w.alloc (χ #[J Q k,J Q d,J Q s,J Q n,J Q ww] t)).heap.size (w.alloc (χ #[J Q k,J Q d,J Q s,J Q n,J Q ww] t)) w1):w1.cell? ⟨w.heap.size,0,G⟩=A (J Q k)/\w1.cell? ⟨w.heap.size,1,G⟩=A (J Q d)/\w1.cell? ⟨w.heap.size,2,G⟩=A (J Q s)/\w1.cell? ⟨w.heap.size,3,G⟩=A (J Q n)/\w1.cell? ⟨w.heap.size,4,G⟩=A (J Q ww)/\w.heap.size<w1.heap.size/\Below w.heap.size w w1 :=
 ⟨(hB.cell (by simp)).trans (by simp),(hB.cell (by simp)).trans (by simp),(hB.cell (by simp)).trans (by simp),(hB.cell (by simp)).trans (by simp),(hB.cell (by simp)).trans (by simp),by have:=hB.size;simp at this;omega,bw (stA (aR _) _) hB⟩
theorem meetA{w w1:u}{k:Nat}{d s n ww:Int}{t t':aJ}(hB:Below (w.alloc (χ #[J Q k,J Q d,J Q s,J Q n,J Q ww] t)).heap.size (w.alloc (χ #[J Q k,J Q d,J Q s,J Q n,J Q ww] t)) w1):∃ b,aB (A ⟨w1.heap.size,0,G⟩)=aB (A ⟨b,0,G⟩)/\refAt (w1.alloc (χ #[Ω (K.name k),Ω (K.has k),J Q (K.cyc k)] t')) b w.heap.size k d s n ww/\Below w.heap.size w (w1.alloc (χ #[Ω (K.name k),Ω (K.has k),J Q (K.cyc k)] t')):=by
 obtain⟨a,h1,h2,h3,h4,c,hb⟩:=rQ hB;have f:∀ i v,w1.cell? ⟨w.heap.size,i,G⟩=A v->(w1.alloc (χ #[Ω (K.name k),Ω (K.has k),J Q (K.cyc k)] t')).cell? ⟨w.heap.size,i,G⟩=A v:=λi v h=>(aN _ _ _ c).trans h
 exact⟨_,D,⟨ly _ _ _ _ D,ly _ _ _ _ D,ly _ _ _ _ D,f _ _ a,f _ _ h1,f _ _ h2,f _ _ h3,f _ _ h4,by simp,by simp;omega⟩,stA hb _⟩
theorem meetB{w w1:u}{k:Nat}{d s n ww:Int}{t:aJ}{a b c:π}(hB:Below (w.alloc (χ #[J Q k,J Q d,J Q s,J Q n,J Q ww] t)).heap.size (w.alloc (χ #[J Q k,J Q d,J Q s,J Q n,J Q ww] t)) w1)
 (z0:w1.cell? ⟨w.heap.size+1,0,G⟩=A a) (g:w1.cell? ⟨w.heap.size+1,1,G⟩=A b) (z2:w1.cell? ⟨w.heap.size+1,2,G⟩=A c) :
 ∃ b,aB (A ⟨w.heap.size+1,0,G⟩)=aB (A ⟨b,0,G⟩)/\refAt (((w1.setCell ⟨w.heap.size+1,0,G⟩ (Ω (K.name k))).setCell ⟨w.heap.size+1,1,G⟩ (Ω (K.has k))).setCell ⟨w.heap.size+1,2,G⟩ (J Q (K.cyc k))) b w.heap.size k d s n ww /\
  Below w.heap.size w (((w1.setCell ⟨w.heap.size+1,0,G⟩ (Ω (K.name k))).setCell ⟨w.heap.size+1,1,G⟩ (Ω (K.has k))).setCell ⟨w.heap.size+1,2,G⟩ (J Q (K.cyc k))):=by
 obtain⟨j,h1,h2,h3,h4,l,hb⟩:=rQ hB;have e:w.heap.size+1<w1.heap.size:=aC w1 _ z0;have f:∀ i v,w1.cell? ⟨w.heap.size,i,G⟩=A v->(((w1.setCell ⟨w.heap.size+1,0,G⟩ (Ω (K.name k))).setCell ⟨w.heap.size+1,1,G⟩ (Ω (K.has k))).setCell ⟨w.heap.size+1,2,G⟩ (J Q (K.cyc k))).cell? ⟨w.heap.size,i,G⟩=A v:=λi v h=>by
  rw[World.cell?_setCell_far _ _ _ _ (by simp),World.cell?_setCell_far _ _ _ _ (by simp),World.cell?_setCell_far _ _ _ _ (by simp)];exact h
 have e1:(w1.setCell ⟨w.heap.size+1,0,G⟩ (Ω (K.name k))).cell? ⟨w.heap.size+1,1,G⟩=A b:=(ap _ _ _ _ (by simp)).trans g;have e2:((w1.setCell ⟨w.heap.size+1,0,G⟩ (Ω (K.name k))).setCell ⟨w.heap.size+1,1,G⟩ (Ω (K.has k))).cell? ⟨w.heap.size+1,2,G⟩=A c:=(ap _ _ _ _ (by simp)).trans ((ap _ _ _ _ (by simp)).trans z2);refine⟨_,D,⟨?_,?_,jq _ _ _ e2,f _ _ j,f _ _ h1,f _ _ h2,f _ _ h3,f _ _ h4,by simpa using e,by simpa using l⟩,((hb.setCell (fH _) _).setCell (fH _) _).setCell (fH _) _⟩
 ·rw[ap _ _ _ _ (by simp),ap _ _ _ _ (by simp)]
  exact jq _ _ _ z0
 ·rw[ap _ _ _ _ (by simp)]
  exact jq _ _ _ e1
theorem CN:∀ k,k<32->decide (0<=Lib.indexByte (K.has k).data.toList 119)=O.hasC k 119:=by decide +kernel
theorem zi3(k:Nat)(a:k<32)(w:u):Δ ω 176 #[Ω (K.has k),Ω ⟨#[119]⟩] w λe w'=>e=μ (ν (O.hasC k 119))/\w'=w:=by
 have h:=Tryz.strings_Contains_one (K.has k) 119 w;rw[CN k a] at h;exact h
structure RF (w : u) : Prop where
 af:AF w
 facts:Facts w
theorem RF.kept{w w':u}(h:RF w)(hb:Below w.heap.size w w'):RF w':=⟨h.af.kept hb,h.facts.kept hb⟩
theorem zxJ(k:Nat):K.name k=aT (K.row k).1:=rfl
theorem zkQ(k:Nat)(hk:k<32)(h30:k≠30)(o:S.Ord)(hok:O.okB k o.d o.s o.n o.w=Γ)(w:u)(hF:RF w):Δ ω 103 #[ac #[J Q k,J Q o.d,J Q o.s,J Q o.n,J Q o.w]] w λe w'=>e=μ (Ω (aT (S.orderText k o)))/\Below w.heap.size w w':=by
 have HF:=hid hF.facts;have HA:=hid hF.af;have HO:=hid hok;have hki:(0:Int)<=k:=by omega
 have hki2:(k:Int)<32:=by omega
 have hit:∀(w:u) (s:ByteArray) (i:Nat),w.iter s i=w.alloc (.stringIter s i):=λ_ _ _=>D
 have h4:=yW k;have hhl:=zzT k hk;clear hF hok;go_enter func103,ntmps103;go_upto_region 1 with fail
 go_cut [3] (λp wx=>∃ b,p=aB (A ⟨b,0,G⟩)/\refAt wx b w.heap.size k o.d o.s o.n o.w/\Below w.heap.size w wx)
 case first =>
  have ad:∀(W:u) (o:Obj),W.drew.alloc o=(W.alloc o).drew:=λ_ _=>D
  have sd:∀(W:u) (x:Addr) (v:π),W.drew.setCell x v=(W.setCell x v).drew:=λ_ _ _=>D
  go_region_with (go_at_call 142;refine(xn _ (by repeat first|exact HF.out|apply zfp|apply zeh)).mono ?_;rintro e w1 ⟨g,cap,rfl,htb,hg1,hg2,hb1⟩;obtain⟨c0,c1,c2⟩:=htb k hk;clear htb;obtain⟨V,hfX⟩:=cj hb1;obtain⟨q0,hz1,hB⟩:=wP (w:=w) (k:=k) (d:=o.d) (s:=o.s) (n:=o.n) (ww:=o.w) (t:=191) (by repeat first|with_reducible exact aR _|apply di|apply stA) hb1)
  all_goals (go_wp2_with fail;go_meet)
  all_goals first
   | exact meetA hB
   | (refine meetB hB (a:=Ω ⟨#[]⟩) (b:=Ω ⟨#[]⟩) (c:=J Q 0) ?_ ?_ ?_
      ·(rw[V _ _ (by simp)];exact ly (w.alloc _) _ _ _ (by simp))
      ·(rw[V _ _ (by simp)];exact ly (w.alloc _) _ _ _ (by simp))
      ·(rw[V _ _ (by simp)];exact ly (w.alloc _) _ _ _ (by simp)))
 case rest =>
 obtain⟨kb,rfl,hR,hBw⟩:=hcut;obtain⟨k0,k1,k2,o0,o1,o2,o3,o4,blt,clt⟩:=hR;have HAc:=hid (HA.out.kept hBw);go_wp2;go_loopw [4] (λr wr=>∃ j:Nat,j<=(S.parts k).length/\r=Ω (aT (jI k o j))/\wr.heap[wc.heap.size]?=A (.stringIter (K.has k) j)/\Below wc.heap.size wc wr) (λ_ wr=>(S.parts k).length-(match wr.heap[wc.heap.size]? with|some (.stringIter _ i)=>i|_=>0))
 case atStart=>exact⟨0,by omega,by unfold jI;simp[zxJ],aM wc _,stA (aR _) _⟩
 case round =>
  obtain⟨j,hj,rfl,P,X⟩:=hrel;by_cases hlt:j<(S.parts k).length
  ·obtain⟨p,R⟩:∃ p,(S.parts k)[j]?=A p:=⟨_,aq hlt⟩
   have hp4:=zjc R;have hc:p=0 \/ p=1 \/ p=2 \/ p=3:=by omega
   have T:(S.sgn p).toNat<128:=by rcases hc with rfl|rfl|rfl|rfl <;> decide
   obtain⟨hi,hch⟩:=zBx k hk j p R;obtain⟨w2,y,U,hg2⟩:=zzS wr wc.heap.size (K.has k) j (S.sgn p) P hi hch T;have m:Below wc.heap.size wc w2:=X.grown hg2 X.size (λq hq=>by cases hq;exact ψ _);have hz2:=m.size;have hcw:w.heap.size<w2.heap.size:=Θ clt hz2;have p1:w2.cell? ⟨w.heap.size,1,G⟩=A (J Q o.d):=(m.cell clt).trans o1;have p2:w2.cell? ⟨w.heap.size,2,G⟩=A (J Q o.s):=(m.cell clt).trans o2;have p3:w2.cell? ⟨w.heap.size,3,G⟩=A (J Q o.n):=(m.cell clt).trans o3;have p4:w2.cell? ⟨w.heap.size,4,G⟩=A (J Q o.w):=(m.cell clt).trans o4;have hps:(aT (jI k o j)).size<=60:=zxI hk HO.out j;have E:=zsB HO.out p;have F:(aT (ba (o.get p))).size<=7:=vK (o.get p) (by omega);have H:=hid R;have z:=hid U;have I:=hid P;have L:=hid (rZ (HAc.out.kept m) (χ #[Ω ⟨#[32]⟩,Ω ⟨#[44,32]⟩] 9));clear R U P hch T;by_cases hj0:j=0
   ·subst hj0
    have hmin:min (0:Int) 1=0:=by decide
    rcases hc with rfl|rfl|rfl|rfl
    ·have B:o.get 0=o.d:=D
     rw[B] at F E;have M:∀ ty,(fs (aB (A ⟨wc.heap.size,0,G⟩)) Γ ty).run ω wr=.ok (Ψ #[ν Γ,J Q 0,J .i32 100]) w2:=y;clear y;have q1:¬ 9223372036854775807<(aT (jI k o 0)).size+1:=by omega
     have q2:¬ 9223372036854775807<1+(aT (ba o.d)).size:=by omega
     have Z:¬ 9223372036854775807<(aT (jI k o 0)).size+1+(1+(aT (ba o.d)).size):=by omega
     go_wp2_with (go_at_call 104;refine(rp o.d (by omega) (by omega) _ L.out).mono ?_;rintro e N ⟨rfl,f⟩)
     have h:=(aa.1 z.out).1;have l:N.heap[wc.heap.size]?=A (.stringIter (K.has k) (0+1)):=(f.block _ (by simp;omega)).trans ((bJ _ _ h).trans z.out);refine⟨⟨0+1,by omega,?_,l,bw (stA m _) f⟩,by rw[l,I.out];simp only;omega⟩;rw[zqB H.out,<- nR,<- nR,yX o 0 (by omega)];rfl
    ·have B:o.get 1=o.s:=D
     rw[B] at F E;have M:∀ ty,(fs (aB (A ⟨wc.heap.size,0,G⟩)) Γ ty).run ω wr=.ok (Ψ #[ν Γ,J Q 0,J .i32 115]) w2:=y;clear y;have q1:¬ 9223372036854775807<(aT (jI k o 0)).size+1:=by omega
     have q2:¬ 9223372036854775807<1+(aT (ba o.s)).size:=by omega
     have Z:¬ 9223372036854775807<(aT (jI k o 0)).size+1+(1+(aT (ba o.s)).size):=by omega
     go_wp2_with (go_at_call 104;refine(rp o.s (by omega) (by omega) _ L.out).mono ?_;rintro e N ⟨rfl,f⟩)
     have h:=(aa.1 z.out).1;have l:N.heap[wc.heap.size]?=A (.stringIter (K.has k) (0+1)):=(f.block _ (by simp;omega)).trans ((bJ _ _ h).trans z.out);refine⟨⟨0+1,by omega,?_,l,bw (stA m _) f⟩,by rw[l,I.out];simp only;omega⟩;rw[zqB H.out,<- nR,<- nR,yX o 1 (by omega)];rfl
    ·have B:o.get 2=o.w:=D
     rw[B] at F E;have M:∀ ty,(fs (aB (A ⟨wc.heap.size,0,G⟩)) Γ ty).run ω wr=.ok (Ψ #[ν Γ,J Q 0,J .i32 119]) w2:=y;clear y;have q1:¬ 9223372036854775807<(aT (jI k o 0)).size+1:=by omega
     have Z:¬ 9223372036854775807<(aT (jI k o 0)).size+1+(aT (ba o.w)).size:=by omega
     go_wp2_with (go_at_call 104;refine(rp o.w (by omega) (by omega) _ L.out).mono ?_;rintro e N ⟨rfl,f⟩)
     have h:=(aa.1 z.out).1;have l:N.heap[wc.heap.size]?=A (.stringIter (K.has k) (0+1)):=(f.block _ (by simp;omega)).trans ((bJ _ _ h).trans z.out);refine⟨⟨0+1,by omega,?_,l,bw (stA m _) f⟩,by rw[l,I.out];simp only;omega⟩;rw[zqB H.out,<- nR,<- nR,Al o 2 (by omega)];rfl
    ·have B:o.get 3=o.n:=D
     rw[B] at F E;have M:∀ ty,(fs (aB (A ⟨wc.heap.size,0,G⟩)) Γ ty).run ω wr=.ok (Ψ #[ν Γ,J Q 0,J .i32 110]) w2:=y;clear y;have q1:¬ 9223372036854775807<(aT (jI k o 0)).size+1:=by omega
     have Z:¬ 9223372036854775807<(aT (jI k o 0)).size+1+(aT (ba o.n)).size:=by omega
     go_wp2_with (go_at_call 104;refine(rp o.n (by omega) (by omega) _ L.out).mono ?_;rintro e N ⟨rfl,f⟩)
     have h:=(aa.1 z.out).1;have l:N.heap[wc.heap.size]?=A (.stringIter (K.has k) (0+1)):=(f.block _ (by simp;omega)).trans ((bJ _ _ h).trans z.out);refine⟨⟨0+1,by omega,?_,l,bw (stA m _) f⟩,by rw[l,I.out];simp only;omega⟩;rw[zqB H.out,<- nR,<- nR,Al o 3 (by omega)];rfl
   ·have hmin:min (j:Int) 1=1:=by omega
    have hj1:(1:Int)<=j:=by omega
    rcases hc with rfl|rfl|rfl|rfl
    ·have B:o.get 0=o.d:=D
     rw[B] at F E;have M:∀ ty,(fs (aB (A ⟨wc.heap.size,0,G⟩)) Γ ty).run ω wr=.ok (Ψ #[ν Γ,J Q j,J .i32 100]) w2:=y;clear y;have q1:¬ 9223372036854775807<(aT (jI k o j)).size+2:=by omega
     have q2:¬ 9223372036854775807<1+(aT (ba o.d)).size:=by omega
     have Z:¬ 9223372036854775807<(aT (jI k o j)).size+2+(1+(aT (ba o.d)).size):=by omega
     go_wp2_with (go_at_call 104;refine(rp o.d (by omega) (by omega) _ L.out).mono ?_;rintro e N ⟨rfl,f⟩)
     have h:=(aa.1 z.out).1;have l:N.heap[wc.heap.size]?=A (.stringIter (K.has k) (j+1)):=(f.block _ (by simp;omega)).trans ((bJ _ _ h).trans z.out);refine⟨⟨j+1,by omega,?_,l,bw (stA m _) f⟩,by rw[l,I.out];simp only;omega⟩;rw[zeX (by omega) H.out,<- nR,<- nR,yX o 0 (by omega)];rfl
    ·have B:o.get 1=o.s:=D
     rw[B] at F E;have M:∀ ty,(fs (aB (A ⟨wc.heap.size,0,G⟩)) Γ ty).run ω wr=.ok (Ψ #[ν Γ,J Q j,J .i32 115]) w2:=y;clear y;have q1:¬ 9223372036854775807<(aT (jI k o j)).size+2:=by omega
     have q2:¬ 9223372036854775807<1+(aT (ba o.s)).size:=by omega
     have Z:¬ 9223372036854775807<(aT (jI k o j)).size+2+(1+(aT (ba o.s)).size):=by omega
     go_wp2_with (go_at_call 104;refine(rp o.s (by omega) (by omega) _ L.out).mono ?_;rintro e N ⟨rfl,f⟩)
     have h:=(aa.1 z.out).1;have l:N.heap[wc.heap.size]?=A (.stringIter (K.has k) (j+1)):=(f.block _ (by simp;omega)).trans ((bJ _ _ h).trans z.out);refine⟨⟨j+1,by omega,?_,l,bw (stA m _) f⟩,by rw[l,I.out];simp only;omega⟩;rw[zeX (by omega) H.out,<- nR,<- nR,yX o 1 (by omega)];rfl
    ·have B:o.get 2=o.w:=D
     rw[B] at F E;have M:∀ ty,(fs (aB (A ⟨wc.heap.size,0,G⟩)) Γ ty).run ω wr=.ok (Ψ #[ν Γ,J Q j,J .i32 119]) w2:=y;clear y;have q1:¬ 9223372036854775807<(aT (jI k o j)).size+2:=by omega
     have Z:¬ 9223372036854775807<(aT (jI k o j)).size+2+(aT (ba o.w)).size:=by omega
     go_wp2_with (go_at_call 104;refine(rp o.w (by omega) (by omega) _ L.out).mono ?_;rintro e N ⟨rfl,f⟩)
     have h:=(aa.1 z.out).1;have l:N.heap[wc.heap.size]?=A (.stringIter (K.has k) (j+1)):=(f.block _ (by simp;omega)).trans ((bJ _ _ h).trans z.out);refine⟨⟨j+1,by omega,?_,l,bw (stA m _) f⟩,by rw[l,I.out];simp only;omega⟩;rw[zeX (by omega) H.out,<- nR,<- nR,Al o 2 (by omega)];rfl
    ·have B:o.get 3=o.n:=D
     rw[B] at F E;have M:∀ ty,(fs (aB (A ⟨wc.heap.size,0,G⟩)) Γ ty).run ω wr=.ok (Ψ #[ν Γ,J Q j,J .i32 110]) w2:=y;clear y;have q1:¬ 9223372036854775807<(aT (jI k o j)).size+2:=by omega
     have Z:¬ 9223372036854775807<(aT (jI k o j)).size+2+(aT (ba o.n)).size:=by omega
     go_wp2_with (go_at_call 104;refine(rp o.n (by omega) (by omega) _ L.out).mono ?_;rintro e N ⟨rfl,f⟩)
     have h:=(aa.1 z.out).1;have l:N.heap[wc.heap.size]?=A (.stringIter (K.has k) (j+1)):=(f.block _ (by simp;omega)).trans ((bJ _ _ h).trans z.out);refine⟨⟨j+1,by omega,?_,l,bw (stA m _) f⟩,by rw[l,I.out];simp only;omega⟩;rw[zeX (by omega) H.out,<- nR,<- nR,Al o 3 (by omega)];rfl
  ·have hjn:j=(S.parts k).length:=by omega
   subst hjn;have hne:=zpg wr wc.heap.size (K.has k) _ P (by omega);go_wp2;go_ret;exact⟨by rw[<- zxH];rfl,bw hBw X⟩
theorem zzP(l:List Dd):∀ θ∈lE l,θ.oneCell'=Γ:=λθ a=>by
 unfold lE at a;obtain⟨x,b,h⟩:=List.mem_flatten.1 a;obtain⟨y,_,rfl⟩:=gc.1 b;exact A9 y θ h
theorem zxC(a b:List Dd):lE (a++b)=lE a++lE b:=by simp[lE]
theorem zpd(X:Mach):X.due.length<=2:=by
 unfold Mach.due Mach.mdid Mach.adid;split <;> split <;> simp
theorem zpe{w:u}{v:π}{n z B:Nat}{xs:List π}{t:aJ}{ops:Array Oper}{o:Oper}{a:Act}{K:Act->u->Prop}{η:Exit->Act->u->Prop}{E:Prop}{L:aJ}{M:π}{y:Nat}(q:Nat)(p:Tryz.prog.underlying L=A (.slice t))(r:(Tryz.prog.info? t).map (λi=>(i.zero,i.size,i.bytes))=A (A M,z,y))(N:M.cells.size=z)(hz:0<z)(hy:y<=64)
 (F:o.guard=G) (s x:Operand) (ho:o.op=.call { callee:=.builtin .append,args:=#[s,x],argTypes:=#[L,L] }) (hs:a.eval s=v) (b:w.ownsRow B t z v n xs) (xv:π) (hx:a.eval x=xv) {m:Nat} {ys:List π} (P:kO w xv m z ys) (h1:∀ θ∈ys,θ.oneCell'=Γ) (hb:n+m<=100000) (hB:B<=w.heap.size)
 (h:∀ v' w',w'.ownsRow B t z v' (n+m) (xs++ys)->Lw q v.ownBlock w w'->(v'.ownBlock=v.ownBlock \/ ∃ k,v'.ownBlock=A k/\w.heap.size<=k)->K (a.put o.dst v') w'):if b9 o (yielded ops a.tmps)=Γ then Oper.wp ω o a w K η else E:=by
 obtain⟨i0,H,R,T,U⟩:=info_parts r;by_cases hm:m=0
 ·subst hm
  obtain⟨ad,c,rfl⟩:=P.len;have V:ys=[]:=fM (by rw[P.1];omega);have I:=vI p i0 H o.type b ad c;rw[am (by simp[b9,F])];unfold Oper.wp;simp[execOp,ho,resolve,invoke,builtin,hs,hx,I,aE];exact h v w (by rw[V];simpa using b) (Lw.of (bq _ _)) (aj D)
 ·obtain⟨W,X|⟨g,o',c,e1,e2,e3,e4⟩⟩:=P
  ·exact absurd X.1 hm
  ·refine step_append_lies _ F s x _ ho B t i0 M z y p H R T U N hz v n xs hs b ⟨g,o',G⟩ m c ys (hx.trans e1) W (λj θ hj=>by rw[addr_add];exact e4 j θ hj) h1 (by omega) (by unfold maxLen;omega) (ax (qd hb hy) (by decide)) hB w.heap.size D ?_
   intro g' cap w' l d Z _;have f:=(bq 0 w).grown d (bh _) (λk hk=>bh _)
   exact h _ w' l ⟨f.os,f.tape,f.output,f.size,λk hk _ hne=>d.block k hk (λe=>hne e.symm)⟩ (by
    rcases Z with e|rfl
    ·exact aj e.symm
    ·exact ao ⟨_,D,ψ _⟩)
structure JT0 (q : Nat) (acc : List Dd) (v : π) (w : u) : Prop where
 bx:Bx w q [v]
 own:w.ownsRow (q+1) 78 4 v acc.length (lE acc)
def JT(q:Nat)(acc:List Dd)(g:Option Nat)(w:u):Prop:=∃ v,JT0 q acc v w/\g=v.ownBlock
theorem JT.jw(q:Nat):Jw q (JT q) where
 same:=by
  rintro acc g w w' ⟨v,h,rfl⟩ a b c;exact⟨v,⟨h.bx.same a b,jr h.own c⟩,D⟩
 q:=by
  rintro acc g w ⟨v,h,rfl⟩;exact h.bx.z
 g:=by
  rintro acc g w ⟨v,h,rfl⟩ k e;exact(jE h.own k e).2.1
structure LT (ι : u) (X : Mach) (SX : Sl) (Z : u) : Prop where
 low:Below ι.heap.size ι Z
 mb:Bx Z ι.heap.size (υ X SX)
section
variable {ι Z Z' : u} {X : Mach} {SX : Sl} {q : Nat} {acc : List Dd} {v : π}
theorem LT.kept(h:LT ι X SX Z)(hb:Below Z.heap.size Z Z'):LT ι X SX Z':=⟨bw h.low hb,h.mb.kept hb⟩
theorem LT.drew(h:LT ι X SX Z):LT ι X SX Z.drew:=⟨h.low.drew,h.mb.drew⟩
theorem LT.ss(h:LT ι X SX Z)(a:JT0 q acc v ι):Z.cell? ⟨q,0,G⟩=A v/\Bx Z ι.heap.size (υ X SX):=⟨(a.bx.kept h.low).at 0 v rfl,h.mb⟩
theorem LT.own(h:LT ι X SX Z)(a:JT0 q acc v ι):Z.ownsRow (q+1) 78 4 v acc.length (lE acc):=jr a.own (λk e=>h.low.block k (jE a.own k e).2.1)
theorem LT.qz(h:LT ι X SX Z)(a:JT0 q acc v ι):q+1<=Z.heap.size:=Θ a.bx.z h.low.size
theorem LT.blk(h:LT ι X SX Z)(a:JT0 q acc v ι)(b:Lw Z.heap.size v.ownBlock Z Z'):Z'.heap[q]?=ι.heap[q]?:=by
 have c:=a.bx.z;have:=h.low.size;exact(b.block q (by omega) (by omega) (λe=>by have:=(jE a.own q e).1;omega)).trans (h.low.block q c)
theorem LT.qs(h:LT ι X SX Z)(a:JT0 q acc v ι)(b:Lw Z.heap.size v.ownBlock Z Z'):Z'.cell? ⟨q,0,G⟩=A v/\q<Z'.heap.size/\Z'.frozen? ⟨q,0,G⟩=ξ:=by
 have hb:=a.bx.same (ax h.low.size b.size) (h.blk a b);exact⟨hb.at 0 v D,hb.z,hb.f 0⟩
theorem LT.fin{v':π}(h:LT ι X SX Z)(b:JT0 q acc v ι)(a:Lw Z.heap.size v.ownBlock Z Z')(c:Z'.ownsRow (q+1) 78 4 v' (acc.length+X.due.length) (lE acc++lE X.due))(f:v'.ownBlock=v.ownBlock \/ ∃ k,v'.ownBlock=A k/\Z.heap.size<=k):JT q (acc++X.due) v'.ownBlock (Z'.setCell ⟨q,0,G⟩ v')/\(v'.ownBlock=v.ownBlock \/ ∃ k,v'.ownBlock=A k/\ι.heap.size<=k)/\Lw q v.ownBlock ι (Z'.setCell ⟨q,0,G⟩ v'):=by
 have hb:=(b.bx.same (ax h.low.size a.size) (h.blk b a)).set 0 v' (by simp);have g:=h.low.size;refine⟨⟨v',⟨hb,?_⟩,D⟩,?_,?_⟩
 ·rw[az,zxC]
  exact jr c (λk e=>cF _ _ _ _ (by have:=(jE c k e).1;simp;omega))
 ·rcases f with e|⟨k,e,d⟩
  ·exact aj e
  ·exact ao ⟨k,e,by omega⟩
 ·have h1:Below q Z' (Z'.setCell ⟨q,0,G⟩ v'):=iK (p:=⟨q,0,G⟩) (bq q Z') (ψ q) v'
  exact⟨h1.os.trans (a.os.trans h.low.os),h1.tape.trans (a.tape.trans h.low.tape),h1.output.trans (a.output.trans h.low.output),ax (ax g a.size) h1.size,λk d h2 h3=>((cF _ _ _ _ (by simpa using h2)).trans (a.block k (by omega) (by omega) h3)).trans (h.low.block k d)⟩
end
theorem Wc.lookT(q:Nat)(w0:u)(I:AF w0):∀ acc g X SX ι,JT q acc g ι->Below w0.heap.size w0 ι->cf ι SX X->X.fit->acc.length<=1000->Δ ω 51 #[ac (υ X SX).toArray,pt q 0] ι λe w'=>e=μ (ν ξ) /\ ∃ g',JT q (acc++X.due) g' w'/\(g'=g \/ ∃ k,g'=A k/\ι.heap.size<=k)/\Lw q g ι w':=by
 rintro acc g X SX ι ⟨v,L,rfl⟩ i M N j;have B:bG (LT ι X SX (ι.alloc (χ (υ X SX).toArray 41))):=hid ⟨stA (aR ι) _,Bx.new ι (υ X SX) 41 (b:=ι.heap.size) D⟩;have n:=hid L;have E:=hid M;have F:=hid N;have R:=hid (I.kept i);have H:=hid j;clear L i M N I j;go_enter func51,ntmps51;go_wp2;refine qp (S:=λw'=>w'.cell? ⟨q,0,G⟩=A v/\Bx w' ι.heap.size (υ X SX)) (st:=3) (by kernel_rfl) ?_;have r:=B.out.drew.ss n.out;refine kU [] 0 (λ_ o=>o.1) r ?_;refine sf [2] 1 (ac (υ X SX).toArray) D (λw' o=>ml 41 _ D ι.heap.size 0 D (υ X SX) _ o.2.c underlying41 D cn) r ?_;refine jy 2 (λK l=>?_);go_simp;go_at_call 52
 refine(Wc.due X SX _ (E.out.kept B.out.low.drew) F.out (R.out.kept B.out.low.drew)).mono ?_;rintro e w2 ⟨v2,rfl,f,s⟩;have a:=hid (B.out.drew.kept s);have t:=hid f;clear f s;try go_wp2_with fail
 refine jV l (λ_=>a.out.ss n.out) ?_;clear l K;clear r;have r:=a.out.ss n.out;refine jy 3 (λK l=>?_);refine zpe w2.heap.size underlying70 A8 D (by omega) (by omega) (by rfl) _ _ (by rfl) (by rfl) (a.out.own n.out) _ (by rfl) (vU t.out) (zzP _) (by have:=H.out;have:=zpd X;omega) (a.out.qz n.out) ?_;intro v3 W d p w;obtain⟨a3,c3,e3⟩:=vT d;subst e3;obtain⟨q0,qz,T⟩:=a.out.qs n.out p;have x:=hid d;have y:=hid p;have z:=hid w;clear d p w;refine jV l (λh=>by simp at h) ?_;clear l K;clear r;refine jy 4 (λK l=>?_);go_simp;refine l.out _ _ (λh=>by simp at h) ?_;clear l K;refine pq (by kernel_rfl) ?_ _;have m:=a.out.fin n.out y.out x.out z.out;refine Pl.cutE (λV=>JT q (acc++X.due) (κ a3 (acc.length+X.due.length) c3).ownBlock V/\((κ a3 (acc.length+X.due.length) c3).ownBlock=v.ownBlock \/ ∃ k,(κ a3 (acc.length+X.due.length) c3).ownBlock=A k/\ι.heap.size<=k)/\Lw q v.ownBlock ι V) m ?_;intro V P;have U:=hid P
 clear P m q0 qz T a y x z t;go_wp2;go_ret;exact⟨D,_,U.out⟩
def BA(M:Mach)(l:List Inp)(n:Int)(X:Mach)(a:Int)(acc:List Dd):Prop :=
 (a≠0/\X=aD/\acc=[]/\(a=jz M l n \/ (jz M l n=0/\19000<M.b.f))) \/
 (a=0/\jz M l n=0/\M.fit/\InR M l/\X=M.aft l n.toNat /\ ∃ c:List Nat,Way M l n.toNat c n.toNat/\acc=(c.map (λi=>(M.aft l i).due)).flatten)
inductive TPost (M : Mach) (l : List Inp) (n : Int) (w : u) (e : Ending) (w' : u) : Prop
 | mk (vl:π) (X:Mach) (SX:Sl) (er:Int) (acc:List Dd) (h:e=μ (Ψ #[vl,ac (υ X SX).toArray,J Q er])) (h2:BA M l n X er acc) (h3:w'.ownsRow w.heap.size 78 4 vl acc.length (lE acc)) (h4:cf w' SX X) (h5:Below w.heap.size w w')
structure TB (w w1 : u) (vl : π) (acc : List Dd) (X : Mach) (SX : Sl) (ι : u) : Prop where
 low:Below w.heap.size w ι
 rb:Bx ι (w.heap.size+1) (υ aD aP)
 lg:Bx ι (w.heap.size+2) [vl]
 ob:Bx ι w1.heap.size (υ X SX)
 own:ι.ownsRow (w.heap.size+3) 78 4 vl acc.length (lE acc)
 sl:cf ι SX X
 nw:gA (w.heap.size+3) SX/\w.heap.size+3<=w1.heap.size
structure TV (w : u) (L : List π) (vl : π) (acc : List Dd) (X : Mach) (SX : Sl) (ι : u) : Prop where
 low:Below w.heap.size w ι
 rb:Bx ι (w.heap.size+1) L
 own:ι.ownsRow w.heap.size 78 4 vl acc.length (lE acc)
 sl:cf ι SX X
section
variable {w w1 ι : u} {vl : π} {acc : List Dd} {X : Mach} {SX : Sl}
theorem TB.ss(h:TB w w1 vl acc X SX ι):ι.cell? ⟨w.heap.size+2,0,G⟩=A vl/\Bx ι w1.heap.size (υ X SX):=⟨h.lg.at 0 vl rfl,h.ob⟩
theorem R1.th(w1:u):(w1.alloc (χ (υ aD aP).toArray 41)).there w1.heap.size 0 75:=(Bx.new w1 (υ aD aP) 41 (b:=w1.heap.size) rfl).there 0 75 (by rw[dG];omega)
theorem TB.mk'{W:u}(h:Below w.heap.size w W)(i:Bx W (w.heap.size+1) (υ aD aP))(c:JT0 (w.heap.size+2) acc vl w1)(a:Lw (w.heap.size+2) G W w1)(j:cf w1 SX X)(g:gA W.heap.size SX)(l:W.heap.size=w.heap.size+3):TB w w1 vl acc X SX ((w1.alloc (χ (υ aD aP).toArray 41)).setCells w1.heap.size 0 (υ X SX)):=by
 have h1:=(Bx.new w1 (υ aD aP) 41 (b:=w1.heap.size) D).puts 0 (υ X SX) (by rw[dG,dG];omega);rw[mK _ _ (by rw[dG,dG])] at h1;have hb:Below w1.heap.size w1 ((w1.alloc (χ (υ aD aP).toArray 41)).setCells w1.heap.size 0 (υ X SX)):=ni (stA (aR w1) _) (ψ _) _ _;have m:=a.size;rw[l] at g;have d:Below w.heap.size w w1:=h.trans (a.below (by omega) (by omega) (λk e=>by cases e));have f:Bx w1 (w.heap.size+1) (υ aD aP):=i.same a.size (a.block _ (by omega) (by omega) (by simp));exact⟨bw d hb,f.kept hb,c.bx.kept hb,h1,jr c.own (λk e=>hb.block k (jE c.own k e).2.1),j.kept hb,g,by omega⟩
theorem TB.put{a:Mach}{S':Sl}{acc':List Dd}{v':π}(h:TB w w1 vl acc X SX ι)(c:cf ι S' a)(d:gA (w.heap.size+3) S')(b:ι.ownsRow (w.heap.size+3) 78 4 v' acc'.length (lE acc')):TV w (υ a S') v' acc' a S' (ι.setCells (w.heap.size+1) 0 (υ a S')):=by
 have h1:=h.rb.puts 0 (υ a S') (by rw[dG,dG];omega);rw[mK _ _ (by rw[dG,dG])] at h1;refine⟨ni h.low (by omega) _ _,h1,?_,c.off d (by omega) _ _⟩;have h2:=jr (w':=ι.setCells (w.heap.size+1) 0 (υ a S')) b (λk e=>ji (by have:=(jE b k e).1;omega) _ _ _);exact Ba (Ba (Ba h2))
end
theorem TB.drew{w w1 ι:u}{vl:π}{acc:List Dd}{X:Mach}{SX:Sl}(h:TB w w1 vl acc X SX ι):TB w w1 vl acc X SX ι.drew:=⟨h.low.drew,h.rb.drew,h.lg.drew,h.ob.drew,h.own,h.sl.kept (aR ι).drew,h.nw⟩
theorem TB.put'{w w1 ι:u}{vl:π}{acc:List Dd}{X:Mach}{SX:Sl}(h:TB w w1 vl acc X SX ι):TV w (υ X SX) vl acc X SX (ι.drew.setCells (w.heap.size+1) 0 (υ X SX)):=h.drew.put h.drew.sl h.nw.1 h.drew.own
theorem Wc.tend{M X:Mach}{l:List Inp}{n:Int}{t:Bool}{acc:List Dd}{a:List Nat}{j:Nat}(h1:jz M l n=0)(h2:M.fit)(h3:InR M l)(h4:Way M l n.toNat a j)(b:X=M.aft l j)(c:(t=ξ/\j=n.toNat/\acc=(a.map (λi=>(M.aft l i).due)).flatten) \/ (t=Γ/\j<n.toNat/\ξ=Γ/\acc=(a.map (λi=>(M.aft l i).due)).flatten++X.due)):(0:Int)=0/\jz M l n=0/\M.fit/\InR M l/\X=M.aft l n.toNat /\ ∃ a:List Nat,Way M l n.toNat a n.toNat/\acc=(a.map (λi=>(M.aft l i).due)).flatten:=by
 rcases c with⟨_,rfl,h⟩|⟨_,_,h,_⟩
 ·exact⟨D,h1,h2,h3,b,a,h4,h⟩
 ·cases h
theorem Wc.trace(M:Mach)(S:Sl)(v:π)(l:List Inp)(n:Int)(w:u)(hF:AF w)(hs:cf w S M)(hz:∀ j,j<5->(M.byt j).length<=9223372036854775807)(m:M.ok)(o:bP w.heap.size w v l)(p:∀ x∈l,0<=x.d/\x.d<=255)(hn:-9223372036854775808<=n/\n<=9223372036854775807):Δ ω 24 #[ac (υ M S).toArray,v,J Q n] w (TPost M l n w):=by
 have hW:Below w.heap.size w (((w.alloc (χ (υ M S).toArray 41)).alloc (χ (υ aD aP).toArray 41)).alloc (χ #[κ G 0 0] 70)):=stA (stA (stA (aR w) _) _) _;have q:=hid (((Bx.new w (υ M S) 41 (b:=w.heap.size) D).over (χ (υ aD aP).toArray 41)).over (χ #[κ G 0 0] 70));have r:=hid ((Bx.new (w.alloc (χ (υ M S).toArray 41)) (υ aD aP) 41 (b:=w.heap.size+1) (by simp)).over (χ #[κ G 0 0] 70));have s:=Bx.new ((w.alloc (χ (υ M S).toArray 41)).alloc (χ (υ aD aP).toArray 41)) [κ G 0 0] 70 (b:=w.heap.size+2) (by simp);have y:=Wc.follow M S v l n 51 (pt (w.heap.size+2) 0) (w.heap.size+2) (JT (w.heap.size+2)) (λ_=>ξ) Mach.due w _ (λ_ _=>D) (Wc.lookT (w.heap.size+2) w hF) zpd (JT.jw _) ⟨by omega,by simp⟩ ⟨_,⟨s,⟨D,aj ⟨D,D⟩⟩⟩,D⟩ hW hs hz m hF.shapes o p hn;have z:=hid y;have HW:=hid hW;clear y hW s hF hs hz m o p;go_enter func24,ntmps24;go_upto_region 3 with(first
  | (refine wpList_load_mid D 41 _ D w.heap.size 0 D (υ M S) _ q.out.c underlying41 D cn ?_)
  | (go_at_call 50;refine z.out.mono ?_;rintro e w1 ⟨X,SX,t,er,acc,g,rfl,B,⟨vl,hJ,rfl⟩,E,F,H⟩
     have HE:=hid B;have HJ:=hid hJ;have i:=hid E;have I:=hid F;have L:=hid H;clear B hJ E F H)
  | (refine wpList_store_mid D 41 _ _ D w1.heap.size 0 (υ X SX).toArray D D (R1.th w1) cn (iq _ _ (kC i.out)) ?_
     refine Pl.cutL (TB w w1 vl acc X SX) (TB.mk' HW.out r.out HJ.out I.out i.out L.out (by simp)) ?_;intro Y1 N;have a:=hid N;clear N))
 clear q r z HW i L I HJ;have B:=HE.out;unfold vn at B;rcases B with⟨he,Z,ht,hc⟩|⟨he,P,R,hR,js,j,T,Z,hbs,U⟩
 ·have HC:=hid hc
  have HNE:=hid he;clear hc HE ht Z
  go_wp2_with (refine wpList_store_mid D 41 _ _ D (w.heap.size+1) 0 (υ aD aP).toArray D D (a.out.rb.there 0 75 (by rw[dG];omega)) cn (iq _ _ vS) ?_
               refine Pl.cutL (TV w (υ aD aP) (κ G 0 0) [] aD aP) (a.out.put (Aa _) (A7 _) ⟨D,aj ⟨D,D⟩⟩) ?_;intro V W;have f:=hid W;clear W)
  refine Ξ (v:=Ψ #[κ G 0 0,ac (υ aD aP).toArray,J Q er]) ?_ D ⟨κ G 0 0,aD,aP,er,[],D,aj ⟨HNE.out,D,D,HC.out⟩,f.out.own,f.out.sl,f.out.low⟩;have l1:=run_loadVar_mid V (w.heap.size+1) 0 41 _ _ f.out.rb.c underlying41 D cn;simp only[results,results24];simp;show (aE (bL ω (bC 41 ⟨w.heap.size+1,0,G⟩) V) _)=_;rw[l1];rfl
 ·have HFE:=hid P
  have HFT:=hid R;have HR:=hid hR;have HWY:=hid T;have HX:=hid Z;have HOR:=hid U;subst he;obtain⟨a1,c1,e1⟩:=vT a.out.own;subst e1;clear P R hR T Z U hbs HE;go_wp2;refine qp (S:=λw'=>w'.cell? ⟨w.heap.size+2,0,G⟩=A (κ a1 acc.length c1)/\Bx w' w1.heap.size (υ X SX)) (st:=3) (by kernel_rfl) ?_;have hS:=a.out.drew.ss;refine kU [] 0 (λ_ k=>k.1) hS ?_;refine sf [] 1 (ac (υ X SX).toArray) D (λw' k=>ml 41 _ D w1.heap.size 0 D (υ X SX) _ k.2.c underlying41 D cn) hS ?_;refine b8 2 (λ_=>hS) ?_;refine jy 3 (λK hK=>?_);refine pH D 41 _ _ D (w.heap.size+1) 0 (υ X SX).toArray D D (a.out.drew.rb.there 0 75 (by rw[dG];omega)) cn (iq _ _ (kC a.out.sl)) ?_;refine hK.out _ _ (λh=>by simp at h) ?_;clear hK K;clear hS;refine b8 4 (λh=>by simp at h) ?_;refine pq (by kernel_rfl) ?_ _;refine Pl.cutE (TV w (υ X SX) (κ a1 acc.length c1) acc X SX) (a.out.put' ) ?_;intro V W;have f:=hid W;clear W a;go_wp2;refine Ξ (v:=Ψ #[κ a1 acc.length c1,ac (υ X SX).toArray,J Q 0]) ?_ D ⟨κ a1 acc.length c1,X,SX,0,acc,D,ao (Wc.tend HFE.out HFT.out HR.out HWY.out HX.out HOR.out),f.out.own,f.out.sl,f.out.low⟩
  have l1:=run_loadVar_mid V (w.heap.size+1) 0 41 _ _ f.out.rb.c underlying41 D cn;simp only[results,results24];simp;show (aE (bL ω (bC 41 ⟨w.heap.size+1,0,G⟩) V) _)=_;rw[l1];rfl
def bk(pc:Int)(X:Mach):Bool:=decide (X.mready<=X.clock) && decide (X.main.PC=pc) && !X.main.Waits
def JB(q:Nat)(pc:Int)(acc:List Dd)(g:Option Nat)(w:u):Prop:=acc=[]/\g=G/\Bx w q [J Y pc]
theorem JB.jw(q:Nat)(pc:Int):Jw q (JB q pc) where
 same:=by
  rintro acc g w w' ⟨rfl,rfl,h⟩ a b c;exact⟨D,D,h.same a b⟩
 q:=by
  rintro acc g w ⟨rfl,rfl,h⟩;exact h.z
 g:=by
  rintro acc g w ⟨rfl,rfl,h⟩ k e;cases e
theorem Wc.lookB(q:Nat)(pc:Int)(w0:u):∀ acc g X SX ι,JB q pc acc g ι->Below w0.heap.size w0 ι->cf ι SX X->X.fit->acc.length<=1000->Δ ω 55 #[ac (υ X SX).toArray,pt q 0] ι λe w'=>e=μ (ν (bk pc X)) /\ ∃ g',JB q pc (acc++[]) g' w'/\(g'=g \/ ∃ k,g'=A k/\ι.heap.size<=k)/\Lw q g ι w':=by
 rintro acc g X SX ι ⟨rfl,rfl,i⟩ c n o d;have f:Below ι.heap.size ι (ι.alloc (χ (υ X SX).toArray 41)):=stA (aR ι) _;have hB:=Bx.new ι (υ X SX) 41 (b:=ι.heap.size) D;have p:=hB.at 72 (J Q X.clock) D;have r:=hB.at 73 (J Q X.mready) D;have s:=hB.at 8 (J Y X.main.PC) D;have j:=hB.at 14 (ν X.main.Waits) D;have t:=hB.z;have v:=(i.kept f).at 0 (J Y pc) D;have w:=(i.kept f).z;have l:bG (∃ g',JB q pc ([]++[]) g' (ι.alloc (χ (υ X SX).toArray 41))/\(g'=(G:Option Nat) \/ ∃ k,g'=A k/\ι.heap.size<=k)/\Lw q G ι (ι.alloc (χ (υ X SX).toArray 41))):=hid ⟨G,⟨D,D,i.kept f⟩,aj D,Lw.of f⟩;have a:bG (bk pc X=(decide (X.mready<=X.clock) && decide (X.main.PC=pc) && !X.main.Waits)):=hid D;obtain⟨wt,h⟩:∃ b,b=X.main.Waits:=⟨_,D⟩
 rw[<- h] at j a;clear h hB i f c n o d;by_cases h1:X.mready<=X.clock
 ·have d1:decide (X.mready<=X.clock)=Γ:=aO h1
  by_cases h2:X.main.PC=pc
  ·have d2:decide (X.main.PC=pc)=Γ:=aO h2
   rw[d1,d2] at a;have m:(X.main.PC == pc)=Γ:=by rw[h2];simp
   clear h1 h2;cases wt;all_goals
    go_enter func55,ntmps55;go_wp2;go_ret;exact⟨by rw[a.out];rfl,l.out⟩
  ·have d2:decide (X.main.PC=pc)=ξ:=aG h2
   rw[d1,d2] at a;have m:(X.main.PC == pc)=ξ:=by simpa using h2
   clear h1 h2;go_enter func55,ntmps55;go_wp2;go_ret;exact⟨by rw[a.out];rfl,l.out⟩
 ·have d1:decide (X.mready<=X.clock)=ξ:=aG h1
  rw[d1] at a;clear h1;go_enter func55,ntmps55;go_wp2;go_ret;exact⟨by rw[a.out];rfl,l.out⟩
inductive BPost (M : Mach) (l : List Inp) (n pc : Int) (w : u) (e : Ending) (w' : u) : Prop
 | mk (X:Mach) (SX:Sl) (t:Bool) (er:Int) (acc:List Dd) (h:e=μ (Ψ #[ac (υ X SX).toArray,ν t,J Q er])) (h2:vn M l n (bk pc) (λ_=>[]) X t er acc) (h4:cf w' SX X) (h5:Below w.heap.size w w')
theorem Wc.break(M:Mach)(S:Sl)(v:π)(l:List Inp)(n pc:Int)(w:u)(f:br w)(P:cf w S M)(R:∀ j,j<5->(M.byt j).length<=9223372036854775807)(h:M.ok)(i:bP w.heap.size w v l)(m:∀ x∈l,0<=x.d/\x.d<=255)(hn:-9223372036854775808<=n/\n<=9223372036854775807):Δ ω 29 #[ac (υ M S).toArray,v,J Q n,J Y pc] w (BPost M l n pc w):=by
 have E:Below w.heap.size w (((w.alloc (χ (υ M S).toArray 41)).alloc (χ #[J Y pc] 22)).alloc (χ (υ aD aP).toArray 41)):=stA (stA (stA (aR w) _) _) _;have F:=hid (((Bx.new w (υ M S) 41 (b:=w.heap.size) D).over (χ #[J Y pc] 22)).over (χ (υ aD aP).toArray 41));have o:=(Bx.new (w.alloc (χ (υ M S).toArray 41)) [J Y pc] 22 (b:=w.heap.size+1) (by simp)).over (χ (υ aD aP).toArray 41);have p:=hid (Bx.new ((w.alloc (χ (υ M S).toArray 41)).alloc (χ #[J Y pc] 22)) (υ aD aP) 41 (b:=w.heap.size+2) (by simp));have q:=Wc.follow M S v l n 55 (pt (w.heap.size+1) 0) (w.heap.size+1) (JB (w.heap.size+1) pc) (bk pc) (λ_=>[]) w _ (λ_ _=>D) (Wc.lookB (w.heap.size+1) pc w) (λ_=>bh _) (JB.jw _ _) ⟨by omega,by simp⟩ ⟨D,D,o⟩ E P R h f i m hn;have H:=hid q;have T:=hid E;clear q E o f P R h i m;go_enter func29,ntmps29;go_wp2_with (first
  | (refine wpList_load_mid D 41 _ D w.heap.size 0 D (υ M S) _ F.out.c underlying41 D cn ?_)
  | (go_at_call 50;refine H.out.mono ?_;rintro e w1 ⟨X,SX,t,U,acc,g,rfl,W,hJ,r,a,s⟩
     have HE:=hid W;have y:=hid r;have I:bG (Below w.heap.size w w1):=hid (T.out.trans (a.below T.out.size (by omega) (λk e=>by cases e)));have B:=hid (p.out.same a.size (a.block _ p.out.z (by omega) (by simp)));have L:bG (gA (w.heap.size+3) SX):=hid (s.mono (by simp));clear W r a s hJ)
  | (refine wpList_store_mid D 41 _ _ D (w.heap.size+2) 0 (υ X SX).toArray D D (B.out.there 0 75 (by rw[dG];omega)) cn (iq _ _ (kC y.out)) ?_
     refine Pl.cutL (λV=>Below w.heap.size w V/\Bx V (w.heap.size+2) (υ X SX)/\cf V SX X) ⟨ni I.out (by omega) _ _,(by have h1:=B.out.puts 0 (υ X SX) (by rw[dG,dG];omega);rw[mK _ _ (by rw[dG,dG])] at h1;exact h1),y.out.off L.out (by omega) _ _⟩ ?_;intro V Z;have N:=hid Z;clear Z))
 refine Ξ (v:=Ψ #[ac (υ X SX).toArray,ν t,J Q U]) ?_ D ⟨X,SX,t,U,acc,D,HE.out,N.out.2.2,N.out.1⟩;have l1:=run_loadVar_mid V (w.heap.size+2) 0 41 _ _ N.out.2.1.c underlying41 D cn;simp only[results,results29];simp;show (aE (bL ω (bC 41 ⟨w.heap.size+2,0,G⟩) V) _)=_;rw[l1];rfl
theorem mu.ty{B:Nat}{v:π}{l:List UInt8}{W:u}(h:mu B v l W):∀ k,v.ownBlock=A k->∃ cs,W.heap[k]?=A (χ cs 5 (0,0)):=λj e=>by
 obtain⟨k,a,h1,h2,h3,h4,b⟩:=h;rw[h1] at e;cases e;exact b
theorem OwnS.kept{B:Nat}{S:Sl}{M:Mach}{W w1:u}(h:OwnS B S M W)(hb:Below W.heap.size W w1):OwnS B S M w1:=⟨λj a=>(h.own j a).kept hb,h.dist⟩
def qR:List (Mach × Sl)->List π
 | []=>[]
 | p::l=>υ p.1 p.2++qR l
theorem zve:∀(l k:List (Mach × Sl)),qR (l++k)=qR l++qR k
 | [],k=>rfl
 | x::l,k=>by rw[cV,qR,zve l k,qR,bK]
theorem zpa:∀(l:List (Mach × Sl)) (i:Nat) (x:Mach × Sl),l[i]?=A x->∀(j:Nat) (v:π),(υ x.1 x.2)[j]?=A v->(qR l)[i*75+j]?=A v
 | [],i,x,h=>by simp at h
 | y::l,0,x,h=>λj v a=>by
  simp only[bv,aZ] at h;subst h;have b:j<(υ y.1 y.2).length:=(ay.1 a).1;rw[i8,aX,qR,bc b];exact a
 | y::l,i+1,x,h=>λj v a=>by
  rw[bN] at h;have:=zpa l i x h j v a;rw[qR,aY (by rw[dG];omega),dG,show (i+1)*75+j-75=i*75+j by omega];exact this
theorem zvf(M:Mach)(S:Sl)(w:u):(gx 73 1 #[(0,ac (υ M S).toArray)]).run ω w=.ok (κ (A ⟨w.heap.size,0,G⟩) 1 1) (w.alloc (χ (υ M S).toArray 41)):=by kernel_rfl
section
variable {F : Gx} {N ob : Nat} {vl vs : π} {w w0 W W1 W2 W3 : u} {s : Bst} {ln : List Lin} {sm : List UInt8} {k k' : Cs} {ps : List (Mach × Sl)} {vps : π} {L : List π}
theorem GC.grew{t:aJ}{z m:Nat}{o:π}{xs:List π}(d:GK F N ob)(h:GC F N ob vl vs W s ln sm)(c:W.ownsRow N t z o m xs)(g:t≠104/\t≠47/\t≠68/\t≠5)(a:W.grownBy W3 o.ownBlock):GC F N ob vl vs W3 s ln sm:=by
 obtain⟨r,w,⟨v,i⟩,b,p,q⟩:=h;have l:ob<W.heap.size:=(aa.1 b).1;have hB:=d.B;have hb:Below F.B W W3:=(bq F.B W).grown a i.big (λj e=>ax hB (jE c j e).1);refine⟨r,w.of_blocks (hb.block _ d.fx.1) (hb.block _ d.fx.2.1) (hb.block _ d.fx.2.2),⟨v,i.of_same a.size (λk n x=>?_) (λk y=>?_)⟩,(a.block ob l (λe=>mL c b g.2.1 e.symm)).trans b,jr p (λj e=>?_),jr q (λj e=>?_)⟩
 ·have E:=d.all k x
  exact a.block k n (λe=>by have:=(jE c k e.symm).1;omega)
 ·obtain⟨cs,fr,e⟩:=i.wty k y
  exact a.block k (aa.1 e).1 (λf=>mL c e g.1 f.symm)
 ·obtain⟨_,h2,cs,h3⟩:=jE p j e
  exact a.block j h2 (λf=>mL c h3 g.2.2.1 f.symm)
 ·obtain⟨_,h2,cs,h3⟩:=jE q j e
  exact a.block j h2 (λf=>mL c h3 g.2.2.2 f.symm)
structure Wl (F : Gx) (N ob : Nat) (w : u) (L : List π) (k : Cs) (ps : List (Mach × Sl)) (vps : π) (W : u) : Prop where
 low:Below w.heap.size w W
 c:∃ vl vs,GC F N ob vl vs W k.s k.ln k.sm
 own:W.ownsRow N 41 75 vps ps.length (qR ps)
 cp:∀ p∈ps,cf W p.2 p.1
 kp:∀ p∈ps,∀ j,j<5->∀ kb,(p.2.get j).ownBlock=A kb->N<=kb/\(∃ cs,W.heap[kb]?=A (χ cs 5 (0,0))) /\ ∀ vs,W.cell? ⟨ob,1,G⟩=A vs->vs.ownBlock≠A kb
 rb:Bx W (w.heap.size+1) L
 z:w.heap.size+2<=F.B
 ft:∀ p∈ps,p.1.fit
theorem Wl.kept(h:Wl F N ob w L k ps vps W)(hb:Below W.heap.size W W1):Wl F N ob w L k ps vps W1:=by
 obtain⟨vl,vs,hc⟩:=h.c;refine⟨bw h.low hb,⟨vl,vs,hc.kept hb⟩,jr h.own (λj e=>hb.block j (jE h.own j e).2.1),λp hp=>(h.cp p hp).kept hb,λp hp j b kb e=>?_,h.rb.kept hb,h.z,h.ft⟩;obtain⟨g1,⟨cs,a⟩,g3⟩:=h.kp p hp j b kb e;exact⟨g1,⟨cs,(hb.block kb (aa.1 a).1).trans a⟩,λθ d=>g3 θ (by rw[<- d];exact(hb.cell (p:=⟨ob,1,G⟩) hc.lt).symm)⟩
theorem Wl.clock{vl' vs':π}(t:GK F N ob)(h:Wl F N ob w L k ps vps W)(f:GV F N ob vl' vs' W k'.s k'.ln k'.sm W1):Wl F N ob w L k' ps vps W1:=by
 obtain⟨vl,vs,hc⟩:=h.c;have g:=Lib.cell_of_heap hc.ob 0;have l:=Lib.cell_of_heap hc.ob 1;have hB:=t.B;have r:∀ kb,vps.ownBlock=A kb->Kpt N ob W kb:=λkb e=>by
  obtain⟨g1,n,cs,g3⟩:=jE h.own kb e;refine⟨g1,⟨cs,_,_,g3,by decide,by decide,by decide⟩,λθ d=>?_,λθ d=>?_⟩
  ·rw[g] at d;cases d;exact mL hc.ln g3 (by decide)
  ·rw[l] at d;cases d;exact mL hc.sm g3 (by decide)
 have o:∀ p∈ps,∀ j,j<5->∀ kb,(p.2.get j).ownBlock=A kb->Kpt N ob W kb:=λp hp j i kb e=>by
  obtain⟨g1,⟨cs,n⟩,g3⟩:=h.kp p hp j i kb e;refine⟨g1,⟨cs,_,_,n,by decide,by decide,by decide⟩,λθ d=>?_,g3⟩;rw[g] at d;cases d;exact mL hc.ln n (by decide)
 refine⟨h.low.trans (f.b.mono (by have:=h.z;omega)),⟨vl',vs',f.c⟩,jr h.own (λj e=>(f.q j (r j e)).1),λp hp=>(h.cp p hp).same f.b.size (λj i a m c e x=>(f.q _ (o p hp j i a.block (by rw[e];rfl))).1),λp hp j i kb e=>?_,h.rb.same f.b.size (f.b.block _ (by have:=h.z;omega)),h.z,h.ft⟩;obtain⟨g1,⟨cs,n⟩,g3⟩:=h.kp p hp j i kb e;obtain⟨q0,q1,v⟩:=f.q kb (o p hp j i kb e);exact⟨g1,⟨cs,q0.trans n⟩,λθ d=>by rw[Lib.cell_of_heap f.c.ob 1] at d;cases d;exact v⟩
theorem Wl.saw{X:Mach}{S1:Sl}{g:π}(x:GK F N ob)(h:Wl F N ob w L k ps vps W)(hb:Below W.heap.size W W1)(H:OwnS (W.heap.size+2) S1 X W1)(V:N<=W.heap.size)(y:X.fit)
 (i:(W1.alloc (χ (υ X S1).toArray 41)).grownBy W3 vps.ownBlock) (I:W3.ownsRow N 41 75 g (ps.length+1) (qR ps++υ X S1)):Wl F N ob w L k (ps++[(X,S1)]) g W3:=by
 have l:Below W.heap.size W (W1.alloc (χ (υ X S1).toArray 41)):=bw hb (stA (aR W1) _);have h2:=h.kept l;have d:=H.kept (stA (aR W1) (χ (υ X S1).toArray 41));obtain⟨M,r,n⟩:=h.c;obtain⟨vl,vs,hc⟩:=h2.c;have P:=l.size;have b:∀ θ,W3.cell? ⟨ob,1,G⟩=A θ->θ=vs/\θ=r:=λθ q=>by
  have e1:=Lib.cell_of_heap ((i.block ob hc.lt (λe=>mL h2.own hc.ob (by decide) e.symm)).trans hc.ob) 1;rw[e1] at q;have e2:=l.cell (p:=⟨ob,1,G⟩) n.lt;rw[Lib.cell_of_heap n.ob 1,Lib.cell_of_heap hc.ob 1] at e2;have e3:vs=θ:=by cases q;rfl
  have e4:vs=r:=by cases e2;rfl
  exact⟨e3.symm,by rw[<- e3,e4]⟩
 have f:∀ kb:Nat,(∃ cs:Array π,(W1.alloc (χ (υ X S1).toArray 41)).heap[kb]?=A (χ cs 5 (0,0)))->W3.heap[kb]?=(W1.alloc (χ (υ X S1).toArray 41)).heap[kb]?:=λkb ⟨cs,e⟩=>i.block kb (aa.1 e).1 (λv=>mL h2.own e (by decide) v.symm)
 have R:N<=w.heap.size+2 \/ w.heap.size+2<=N:=by omega
 have s:Below w.heap.size w W3:=h2.low.trans ((bq w.heap.size _).grown i h2.low.size (λj e=>by have:=(jE h2.own j e).1;have:=x.B;have:=h.z;omega));have E:qR (ps++[(X,S1)])=qR ps++υ X S1:=by rw[zve];simp[qR]
 refine⟨s,⟨vl,vs,hc.grew x h2.own ⟨by decide,by decide,by decide,by decide⟩ i⟩,by rw[az,E];exact I,λp hp=>?_,λp hp j o kb e=>?_,h2.rb.same i.size (i.block _ h2.rb.z (λe=>by have:=(jE h2.own _ e.symm).1;have:=x.B;have:=h.z;omega)),h.z,λp hp=>(cO.1 hp).elim (h.ft p) (λe=>by simp only[bp,cz,gC] at e;subst e;exact y)⟩
 ·rcases cO.1 hp with hp|hp
  ·exact(h2.cp p hp).same i.size (λj o a m c e T=>f _ (h2.kp p hp j o a.block (by rw[e];rfl)).2.1)
  ·simp only[bp,cz,gC] at hp
   subst hp;exact d.slAt.same i.size (λj o a m c e T=>f _ ((d.own j o).ty a.block (by rw[e];rfl)))
 ·rcases cO.1 hp with hp|hp
  ·obtain⟨g1,⟨cs,t⟩,g3⟩:=h2.kp p hp j o kb e
   exact⟨g1,⟨cs,(f kb ⟨cs,t⟩).trans t⟩,λθ q=>by rw[(b θ q).1];exact g3 vs (Lib.cell_of_heap hc.ob 1)⟩
  ·simp only[bp,cz,gC] at hp
   subst hp;obtain⟨cs,t⟩:=(d.own j o).ty kb e;have U:=(d.own j o).lt kb e;refine⟨by omega,⟨cs,(f kb ⟨cs,t⟩).trans t⟩,λθ q v=>?_⟩;rw[(b θ q).2] at v;have:=(jE n.sm kb v).2.1;omega
end
theorem zzM{H:Type}{enc:aJ × π->H}{W:u}{v:π}{x:fF H × List dZ}{fuel:Nat}(f:dh enc ω W 0 (λ_=>Γ) Γ fuel 26 [v]=A x)(g:∀ n∈x.1.weights ω 26,n<=iS):∃ a k c,v=.slice a k c/\k<=iS:=by
 have c1:Tryz.prog.cellsOf 5=1:=by kernel_rfl
 have b1:Tryz.prog.bytesOf 5=1:=by kernel_rfl
 rcases open_ints underlying26 underlying5 c1 f with⟨hc,_⟩|⟨h,b,d,zs,hc,_,i,o,j,l,e,m⟩
 ·exact⟨G,0,0,by simpa using hc,bh _⟩
 ·refine⟨A h,b,d,by simpa using hc,?_⟩
  simp only[fO] at j;have:=g (((lits (H:=H) .u8 (zs.take b)).length+(lits (H:=H) .u8 (zs.drop b)).length)*Tryz.prog.bytesOf 5) (by rw[l];simp[qu,underlying26]);simp only[lits,bf,b1,bD,cW] at this;omega
theorem zeQ{H:Type}{enc:aJ × π->H}{W:u}{M:Mach}{S:Sl}{d:fF H}{p:List dZ}(h:DataW.Trod enc ω W 0 (λ_=>Γ) Γ 41 (.agg (υ M S).toArray) d p)(E:∀ n∈d.weights ω 41,n<=iS)(F:S.lens M):∀ j,j<5->(M.byt j).length<=140737488355328:=by
 obtain⟨fuel,s⟩:=h;have I:dh enc ω W 0 (λ_=>Γ) Γ fuel 41 (υ M S)=A (d,p):=s;obtain⟨xs,m,_,z,_,o,b⟩:=eh underlying41 I;have P:xs.length=20:=o;simp only[gv] at z;have L:Tryz.prog.cellsOf 26=1:=by kernel_rfl
 have R:=reachBytes_lt;have key:∀(j:Nat) (i:Nat) (hi:i<20),(dh enc ω W 0 (λ_=>Γ) Γ m 26 (((υ M S).drop (30+j)).take (Tryz.prog.cellsOf 26))=xs[i]?)->(∀(y:fF H × List dZ),xs[i]?=A y->∀ n∈y.1.weights ω 26,n∈d.weights ω 41)->j<5->(M.byt j).length<=140737488355328:=λj i hi g q l=>by
  have v:=zjO M S j l;have N:((υ M S).drop (30+j)).take 1=[S.get j]:=by rw[og,mV,v];rfl
  rw[L,N,aq (by omega)] at g;obtain⟨a,k,c,e,T⟩:=zzM g (λn w=>E n (q _ (aq (by omega)) n w));obtain⟨U,V,B⟩:=F j l;rw[e] at B;simp only[iQ] at B;omega
 have r:∀(i:Nat) (y:fF H × List dZ),xs[i]?=A y->(i=2 \/ i=3 \/ i=4 \/ i=5 \/ i=6)->∀ n∈y.1.weights ω 26,n∈d.weights ω 41:=λi y f hi n w=>by
  rw[z.1];simp only[qu,underlying41];have x:(xs.map (·.1))[i]?=A y.1:=by rw[bn,f];rfl
  rcases hi with rfl|rfl|rfl|rfl|rfl
  all_goals exact DataW.weights_mem_each (t:=26) D x n w
 intro j l;rcases five l with rfl|rfl|rfl|rfl|rfl
 ·exact key 0 2 (by omega) (b 2 _ D) (λy f=>r 2 y f (by omega)) l
 ·exact key 1 3 (by omega) (b 3 _ D) (λy f=>r 3 y f (by omega)) l
 ·exact key 2 4 (by omega) (b 4 _ D) (λy f=>r 4 y f (by omega)) l
 ·exact key 3 5 (by omega) (b 5 _ D) (λy f=>r 5 y f (by omega)) l
 ·exact key 4 6 (by omega) (b 6 _ D) (λy f=>r 6 y f (by omega)) l
end Go.Proofs.YthghjlinhokimaaGreatDoor
