/-
  Parts of a proof, joined.
-/
import Derived.Test.YthghjlinhokimaaGreatDoorZcA
import Derived.Test.YthghjlinhokimaaGreatDoorZcWatchBreak02
import Derived.Test.YthghjlinhokimaaGreatDoorZc43
set_option linter.all false
set_option maxRecDepth 100000
set_option maxHeartbeats 6400000
namespace Go.Proofs.YthghjlinhokimaaGreatDoor
open Go.ChangeShapes Go.WideShapes Go.ChangeAt Go.RowKit Go.Proofs.Tryz
def Mach.aft(M:Mach)(l:List Inp)(j:Nat):Mach:=(Cs.clocks ⟨⟨M,0,[]⟩,l,[],[]⟩ j).s.M
def wnx(M:Mach)(l:List Inp)(n j:Nat):Nat:=(min (M.aft l j).next (M.clock+n)-M.clock).toNat
inductive Way (M : Mach) (l : List Inp) (n : Nat) : List Nat -> Nat -> Prop
 | nil:Way M l n [] 0
 | cons {js:List Nat} {j:Nat}:Way M l n js j->j<n->Way M l n (js++[j]) (wnx M l n j)
structure InR (M : Mach) (l : List Inp) : Prop where
 p:ni l
 ge:∀ x∈l,M.clock<=x.c
 ck:chkIn l M.clock=0
 dn:∀ x∈l,0<=x.d/\x.d<=255
theorem InR.of{M:Mach}{l:List Inp}(h:chkIn l M.clock=0)(a:∀ x∈l,0<=x.d/\x.d<=255):InR M l:=⟨(zfU l _ (qB h).2).1,λx b=>(qx l _ (qB h).2 x b).2,h,a⟩
section
variable {M : Mach} {l : List Inp} {n j : Nat} {js : List Nat}
theorem pU(h:InR M l)(j:Nat):(M.aft l j).clock=M.clock+j:=(zcX ⟨⟨M,0,[]⟩,l,[],[]⟩ l rfl h.p h.ge j).1
theorem zsz(h:InR M l)(a b:Nat):M.aft l (a+b)=(M.aft l a).aft (comes (M.clock+a) l) b:=by
 rw[zc4 _ _ h.p];exact(zr4 M l h.p h.ge a b).s.M
theorem InR.aft(h:InR M l)(j:Nat):InR (M.aft l j) (comes (M.clock+j) l):=by
 rw[zc4 _ _ h.p];have hc:=pU h j;exact InR.of (by rw[hc];exact zus h.ck (by omega)) (λx a=>h.dn x (fI.1 a).1)
theorem zsA(X:Mach):X.clock+1<=X.next:=by unfold Mach.next;omega
theorem znW(h:InR M l)(a:j<n):j<wnx M l n j/\wnx M l n j<=n:=by
 have:=pU h j;have:=zsA (M.aft l j);unfold wnx;omega
theorem zsB(h:InR M l)(a:j<n):min (M.aft l j).next (M.clock+n)-(M.clock+j)=((wnx M l n j-j:Nat):Int):=by
 have:=pU h j;have:=zsA (M.aft l j);unfold wnx;omega
theorem Way.le(h:InR M l)(w:Way M l n js j):j<=n/\js.length<=j:=by
 induction w with
 | nil=>exact⟨aU _,ak _⟩
 | @cons js j w a b =>
  have:=znW h a;rw[aC];exact⟨this.2,by simp;omega⟩
theorem zsC(e:M.fit)(c:M.b.f<=19000)(g:j<=500):(M.aft l j).b.f<=20000:=by
 have hb:=e.b;have d:=vh ⟨⟨M,0,[]⟩,l,[],[]⟩ ⟨hb.l0,hb.l1,hb.a0,hb.a1,hb.f0,by show M.b.f<=20000;omega⟩ c j (by omega);show (Cs.clocks ⟨⟨M,0,[]⟩,l,[],[]⟩ j).s.M.b.f<=20000;rw[d.f];show j3 M.b.l M.b.a M.b.f j<=20000;have:=hb.l0;have:=hb.l1;have:=hb.a0;have:=hb.a1;unfold j3;omega
end
def gQ(M:Mach)(l:List Inp)(n:Int):Int:=if bF M l 0=0 then (if 0<=n/\n<=500/\M.clock+n<=200000 then 0 else 3) else bF M l 0
structure Lw (q : Nat) (g : Option Nat) (w w' : World) : Prop where
 os:w'.os=w.os
 tape:w'.tape=w.tape
 output:w'.output=w.output
 size:w.heap.size<=w'.heap.size
 block:∀ k,k<w.heap.size->k≠q->g≠some k->w'.heap[k]?=w.heap[k]?
theorem Lw.below{q B:Nat}{g:Option Nat}{w w':World}(h:Lw q g w w')(hB:B<=w.heap.size)(b:B<=q)(a:∀ k,g=some k->B<=k):Below B w w' :=
 ⟨h.os,h.tape,h.output,h.size,λk c=>h.block k (by omega) (by omega) (λe=>by have:=a k e;omega)⟩
theorem Lw.of{q:Nat}{g:Option Nat}{w w':World}(h:Below w.heap.size w w'):Lw q g w w':=⟨h.os,h.tape,h.output,h.size,λk a _ _=>h.block k a⟩
structure Jw (q : Nat) (ae : List Dd -> Option Nat -> World -> Prop) : Prop where
 same:∀ acc g w w',ae acc g w->w.heap.size<=w'.heap.size->w'.heap[q]?=w.heap[q]?->(∀ k,g=some k->w'.heap[k]?=w.heap[k]?)->ae acc g w'
 q:∀ acc g w,ae acc g w->q<w.heap.size
 g:∀ acc g w,ae acc g w->∀ k,g=some k->k<w.heap.size
theorem bM.same{W d:World}{S:Sl}{M:Mach}(h:bM W S M)(k:W.heap.size<=d.heap.size)(hb:∀ j,j<5->∀ a m c,S.get j=.slice (some a) m c->0<m->d.heap[a.block]?=W.heap[a.block]?):bM d S M:=λj e=>by
 rcases h j e with l|⟨g,o',b,e1,e2,e3,e4⟩
 ·exact Or.inl l
 ·by_cases n:0<(M.byt j).length
  ·exact Or.inr ⟨g,o',b,e1,e2,ap e3 k,λi c hi=>(am (show d.heap[g]?=W.heap[g]? from hb j e _ _ _ e1 n)).trans (e4 i c hi)⟩
  ·have f:M.byt j=[]:=en (by omega)
   exact Or.inl ⟨_,b,by rw[e1,f];rfl,f⟩
theorem bM.lt{W:World}{S:Sl}{M:Mach}(h:bM W S M):∀ j,j<5->∀ a m c,S.get j=.slice (some a) m c->0<m->a.block<W.heap.size:=λj b a m c e i=>by
 rcases h j b with⟨_,_,d,_⟩|⟨g,o',f,e1,e2,e3,e4⟩
 ·rw[d] at e;cases e;omega
 ·rw[e1] at e;cases e;exact e3
def nM(g:Option Nat)(S:Sl):Prop:=∀ j,j<5->∀ a m c,S.get j=.slice (some a) m c->0<m->g≠some a.block
structure FI (q : Nat) (w : World) (ae : List Dd -> Option Nat -> World -> Prop) (X : Mach) (SX : Sl) (acc : List Dd) (g : Option Nat) (Y : World) : Prop where
 low:Lw q none w Y
 bx:Bx Y w.heap.size (D X SX)
 rb:Bx Y (w.heap.size+1) (D aE aM)
 sl:bM Y SX X
 nw:dY (w.heap.size+2) SX
 off:nM g SX
 jj:ae acc g Y
 gb:∀ k,g=some k->w.heap.size+2<=k
structure FR (q : Nat) (w : World) (ae : List Dd -> Option Nat -> World -> Prop) (X : Mach) (SX : Sl) (acc : List Dd) (g : Option Nat) (V : World) : Prop where
 low:Lw q none w V
 rb:Bx V (w.heap.size+1) (D X SX)
 sl:bM V SX X
 jj:ae acc g V
 nw:dY (w.heap.size+2) SX
theorem Lw.trans{q:Nat}{g:Option Nat}{w Y Y':World}(h:Lw q none w Y)(k:Lw q g Y Y')(b:∀ k,g=some k->w.heap.size<=k):Lw q none w Y' :=
 ⟨k.os.trans h.os,k.tape.trans h.tape,k.output.trans h.output,ax h.size k.size,λi hi a _=>(k.block i (ap hi h.size) a (λe=>by have:=b i e;omega)).trans (h.block i hi a (by simp))⟩
theorem Lw.below0{q:Nat}{w0 w Y:World}(h:Lw q none w Y)(a:Below w0.heap.size w0 w)(b:w0.heap.size<=q):Below w0.heap.size w0 Y:=a.trans (h.below a.size b (λk e=>by cases e))
theorem Lw.sets{q b o:Nat}{g:Option Nat}{w Y:World}(h:Lw q g w Y)(hb:w.heap.size<=b)(vs:List Value):Lw q g w (Y.setCells b o vs):=by
 have h1:Below b Y (Y.setCells b o vs):=j4 (aW _ _) (ak _) vs o;exact⟨h1.os.trans h.os,h1.tape.trans h.tape,h1.output.trans h.output,ax h.size h1.size,λk a c d=>(h1.block k (by omega)).trans (h.block k a c d)⟩
theorem tj(V:World):bM V aM aE:=λj a=>by
 have hc:j=0 \/ j=1 \/ j=2 \/ j=3 \/ j=4:=by omega
 rcases hc with rfl|rfl|rfl|rfl|rfl <;> exact Or.inl ⟨none,0,U,U⟩
section
variable {w0 w Y Y' : World} {q : Nat} {ae : List Dd -> Option Nat -> World -> Prop} {X : Mach} {SX : Sl} {acc acc' : List Dd} {g g' : Option Nat}
theorem FI.kept(a:Jw q ae)(h:FI q w ae X SX acc g Y)(hb:Below Y.heap.size Y Y'):FI q w ae X SX acc g Y' :=
 ⟨h.low.trans (Lw.of (g:=none) hb) (λk e=>by cases e),h.bx.kept hb,h.rb.kept hb,h.sl.kept hb,h.nw,h.off,a.same _ _ _ _ h.jj hb.size (hb.block _ (a.q _ _ _ h.jj)) (λk e=>hb.block _ (a.g _ _ _ h.jj k e)),h.gb⟩
theorem FI.look(o:q<w.heap.size)(h:FI q w ae X SX acc g Y)(b:Lw q g Y Y')(d:ae acc' g' Y')(i:g'=g \/ ∃ k,g'=some k/\Y.heap.size<=k):FI q w ae X SX acc' g' Y':=by
 have b0:=h.bx.z;have b1:=h.rb.z;refine⟨h.low.trans b (λk e=>by have:=h.gb k e;omega),h.bx.same b.size (b.block _ b0 (by omega) (λe=>by have:=h.gb _ e;omega)),h.rb.same b.size (b.block _ b1 (by omega) (λe=>by have:=h.gb _ e;omega)),h.sl.same b.size (λj d a m c e f=>b.block _ (h.sl.lt j d a m c e f) (by have:=h.nw j d a m c e;omega) (h.off j d a m c e f)),h.nw,?_,d,?_⟩
 ·rcases i with rfl|⟨k,rfl,l⟩
  ·exact h.off
  ·intro j d a m c e f n
   have:=h.sl.lt j d a m c e f;cases n;omega
 ·rcases i with rfl|⟨k,rfl,l⟩
  ·exact h.gb
  ·intro k' e
   cases e;omega
theorem FI.of{L:List Value}{a:Mach}{S':Sl}(f:Jw q ae)(n:q<w.heap.size)(h:Lw q none w Y)(hb:Bx Y w.heap.size L)(b:L.length=75)(i:Bx Y (w.heap.size+1) (D aE aM))(j:ae acc g Y)(c:∀ k,g=some k->w.heap.size+2<=k)(l:bM Y S' a)(d:dY (w.heap.size+2) S')(m:nM g S'):FI q w ae a S' acc g (Y.setCells w.heap.size 0 (D a S')):=by
 have h1:=hb.puts 0 (D a S') (by rw[cy,b];omega);rw[jJ _ _ (by rw[cy,b])] at h1;exact⟨h.sets (by omega) _,h1,DW.bb i (by omega),l.off d (by omega) _ _,d,m,f.same _ _ _ _ j (bA (lU _ _ _ _).symm) (fO (by omega) _ _ _) (λk e=>fO (by have:=c k e;omega) _ _ _),c⟩
theorem FI.put{a:Mach}{S':Sl}(b:Jw q ae)(c:q<w.heap.size)(h:FI q w ae X SX acc g Y)(d:bM Y S' a)(e:dY (w.heap.size+2) S')(f:nM g S'):FI q w ae a S' acc g (Y.setCells w.heap.size 0 (D a S')):=FI.of b c h.low h.bx (cy _ _) h.rb h.jj h.gb d e f
theorem FI.far{b o:Nat}(d:Jw q ae)(r:q<w.heap.size)(h:FI q w ae X SX acc g Y)(hb:w.heap.size+2<=b)(f:∀ j,j<5->∀ a m c,SX.get j=.slice (some a) m c->0<m->a.block≠b)(i:g≠some b)(vs:List Value):FI q w ae X SX acc g (Y.setCells b o vs) :=
 ⟨h.low.sets (by omega) _,DW.bb h.bx (by omega),DW.bb h.rb (by omega),h.sl.same (bA (lU _ _ _ _).symm) (λj l a m c e n=>fO (f j l a m c e n) _ _ _),h.nw,h.off,d.same _ _ _ _ h.jj (bA (lU _ _ _ _).symm) (fO (by omega) _ _ _) (λk e=>fO (λp=>i (by rw[e,p])) _ _ _),h.gb⟩
theorem FI.ret{a:Mach}{S':Sl}(c:Jw q ae)(f:q<w.heap.size)(h:FI q w ae X SX acc g Y)(d:bM Y S' a)(b:dY (w.heap.size+2) S'):FR q w ae a S' acc g (Y.setCells (w.heap.size+1) 0 (D a S')):=by
 have h1:=h.rb.puts 0 (D a S') (by rw[cy,cy];omega);rw[jJ _ _ (by rw[cy,cy])] at h1;exact⟨h.low.sets (by omega) _,h1,d.off b (by omega) _ _,c.same _ _ _ _ h.jj (bA (lU _ _ _ _).symm) (fO (by omega) _ _ _) (λk e=>fO (by have:=h.gb k e;omega) _ _ _),b⟩
end
theorem vz(n:Nat):dY n aM:=λj b a m c e=>by
 have hc:j=0 \/ j=1 \/ j=2 \/ j=3 \/ j=4:=by omega
 rcases hc with rfl|rfl|rfl|rfl|rfl <;> cases e
theorem zhJ(M:Mach)(S:Sl)(v:Value)(l:List Inp)(n:Nat)(w:World)(k:bM w S M)(m:∀ j,j<5->(M.byt j).length<=9223372036854775807)(b:M.ok)(i:aZ w)(c:bE w.heap.size w v l)(o:∀ x∈l,0<=x.d/\x.d<=255)(u:n<=9223372036854775807):Calls prog 9 #[.agg (D M S).toArray,v,.int .i64 n] w λe w'=>∃(g:Mach) (S':Sl) (a1 a2 a3:Option Addr) (p q r c1 c2 c3:Nat),e=.returned (.tuple #[.agg (D g S').toArray,.agg #[.slice a1 p c1,.slice a2 q c2,.slice a3 r c3],.int .i64 (bF M l n)])/\bM w' S' g/\dY w.heap.size S'/\Below w.heap.size w w'/\(bF M l n=0->g=M.aft l n/\g.fit):=by
 by_cases a:bF M l n=0
 ·have h1:M.chk=0:=by
   unfold bF at a;split at a
   ·assumption
   ·exact a
  have h2:chkIn l M.clock=0:=by
   unfold bF at a;rw[Q h1] at a;split at a
   ·assumption
   ·exact a
  have h3:0<=(n:Int)/\(n:Int)<=20000/\M.clock+n<=200000:=by
   unfold bF at a;rw[Q h1,Q h2] at a;split at a
   ·assumption
   ·cases a
  have s:=rq b h1;refine(zej M S v l n w k i c o s (zfE h1) h2 ⟨by omega,h3.2.2⟩).mono ?_;rintro e w' ⟨F,N,vln,vsm,vw,rfl,f,hB,_,t,hb⟩;obtain⟨p1,c1,e1⟩:=qy f.ln;obtain⟨p2,c2,e2⟩:=qy f.sm;obtain⟨p3,c3,e3⟩:=qy f.ws;subst e1 e2 e3;exact⟨_,F.S,p1,p2,p3,_,_,_,c1,c2,c3,by rw[a],f.sl,t.mono hB,hb,λ_=>⟨U,f.fit⟩⟩
 ·refine(zeE M S v l n w k m b c ⟨by omega,by omega⟩ a).mono ?_
  rintro e w' ⟨rfl,hb⟩;exact⟨aE,aM,none,none,none,0,0,0,0,0,0,U,tj _,vz _,hb,λh=>absurd h a⟩
def oW(M:Mach)(l:List Inp)(n:Int)(b:Mach->Bool)(f:Mach->List Dd)(X:Mach)(t:Bool)(c:Int)(acc:List Dd):Prop :=
 (c≠0/\X=aE/\t=false/\(c=gQ M l n \/ (gQ M l n=0/\19000<M.b.f))) \/
 (c=0/\gQ M l n=0/\M.fit/\InR M l /\ ∃(a:List Nat) (j:Nat),Way M l n.toNat a j/\X=M.aft l j/\(∀ i∈a,b (M.aft l i)=false) /\
   ((t=false/\j=n.toNat/\acc=(a.map (λi=>f (M.aft l i))).flatten) \/ (t=true/\j<n.toNat/\b X=true/\acc=(a.map (λi=>f (M.aft l i))).flatten++f X)))
def lA(b:Nat)(w:World):Nat:=match w.cell? ⟨b,72,none⟩ with
 | some (.int _ c)=>c.toNat
 | _=>0
theorem zvm{b:Nat}{Y:World}{X:Mach}{SX:Sl}(h:Bx Y b (D X SX)):lA b Y=X.clock.toNat:=by
 unfold lA;rw[h.at 72 (.int .i64 X.clock) U]
theorem znX{f:Mach->List Dd}(b:∀ X,(f X).length<=2)(K:Nat->Mach):∀ a:List Nat,((a.map (λi=>f (K i))).flatten).length<=2*a.length
 | []=>by simp
 | j::a=>by
  have:=znX b K a;have:=b (K j);simp only[bP,gt,aC,bR];omega
theorem Wc.long{M X:Mach}{l:List Inp}{N j k:Nat}(m:M.fit)(a:InR M l)(o:N<=500)(hc:0<=M.clock/\M.clock+N<=200000)(n:j<N)(c:X=M.aft l j)(d:X.fit)(p:k=wnx M l N j-j)(h:bF X (comes X.clock l) k≠0):19000<M.b.f:=by
 refine lC.1 (λe=>h ?_);have hb:=znW a n;have g:=pU a j;have h2:=(a.aft j).ck;rw[<- c] at g;rw[<- c,<- g] at h2;have i:X.b.f<=20000:=by rw[c];exact zsC m e (by omega)
 exact zfg (zip d i) h2 ⟨by omega,by omega,by rw[g];omega⟩
inductive FPost (M : Mach) (l : List Inp) (n : Int) (q : Nat) (ae : List Dd -> Option Nat -> World -> Prop) (b : Mach -> Bool) (f : Mach -> List Dd) (w : World) (e : Ending) (w' : World) : Prop
 | mk (X:Mach) (SX:Sl) (t:Bool) (er:Int) (acc:List Dd) (g:Option Nat) (h:e=.returned (.tuple #[.agg (D X SX).toArray,.bool t,.int .i64 er])) (h2:oW M l n b f X t er acc) (h3:ae acc g w') (h4:bM w' SX X) (h5:Lw q none w w') (h6:dY w.heap.size SX)
theorem Wc.follow(M:Mach)(S:Sl)(v:Value)(l:List Inp)(n:Int)(fn:Nat)(cv:Value)(q:Nat)(ae:List Dd->Option Nat->World->Prop)(b:Mach->Bool)(f:Mach->List Dd)(w0 w:World)
 (hcf:∀(a:Array Value) (w:World),(callFunc fn a).run prog w=.ok (.enter fn a) w)
 (hlook:∀ acc g X SX Y,ae acc g Y->Below w0.heap.size w0 Y->bM Y SX X->X.fit->acc.length<=1000->Calls prog fn #[.agg (D X SX).toArray,cv] Y λe w'=>e=.returned (.bool (b X)) /\ ∃ g',ae (acc++f X) g' w'/\(g'=g \/ ∃ k,g'=some k/\Y.heap.size<=k)/\Lw q g Y w')
 (hf2:∀ X,(f X).length<=2) (hJ:Jw q ae) (hq:w0.heap.size<=q/\q<w.heap.size) (hj0:ae [] none w) (R:Below w0.heap.size w0 w)
 (hs:bM w0 S M) (hz:∀ j,j<5->(M.byt j).length<=9223372036854775807) (hok:M.ok) (hsh:aZ w0) (hin:bE w0.heap.size w0 v l) (hdn:∀ x∈l,0<=x.d/\x.d<=255) (hn:-9223372036854775808<=n/\n<=9223372036854775807) :
 Calls prog 50 #[.agg (D M S).toArray,v,.int .i64 n,.func (.func fn) #[] #[cv]] w (FPost M l n q ae b f w):=by
 obtain⟨n1,n2⟩:=hn;have hW1:Below w.heap.size w ((w.alloc (.cells (D M S).toArray 41)).alloc (.cells (D aE aM).toArray 41)):=stA (stA (J w) _) _;have hB0:=bn R hW1;have HL1:=hid (Lw.of (q:=q) (g:=none) hW1);have HB4:=hid ((Bx.new w (D M S) 41 (b:=w.heap.size) U).over (.cells (D aE aM).toArray 41));have HB8:=hid (Bx.new (w.alloc (.cells (D M S).toArray 41)) (D aE aM) 41 (b:=w.heap.size+1) (by simp));have HJ1:=hid (hJ.same _ _ _ _ hj0 hW1.size (hW1.block _ hq.2) (λk e=>by cases e));have hR0:=zhJ M S v l 0 _ (hs.kept hB0) hz hok (rt hsh (hB0.block _ (zeh hsh))) ((hin.kept hB0).mono hB0.size) hdn (by omega);rw[show ((0:Nat):Int)=0 from U] at hR0;obtain⟨r,hre⟩:∃ r,r=bF M l 0:=⟨_,U⟩
 rw[<- hre] at hR0;have HR0:=hid hR0;have HRE:=hid hre;have HLK:=hid hlook;have HF2:=hid hf2;have F:=hid hJ;have W:=hid hq;have HLW:=hid R;have HSH:=hid hsh;have HIN:=hid hin;have HDN:=hid hdn;have HZ0:Hid (w0.heap.size<=w.heap.size):=hid R.size;have HOK:=hid hok;clear hR0 hre hlook hf2 hJ hq R hsh hin hdn hok hs hz hj0 hB0 hW1;go_enter func50,ntmps50;go_upto_region 2 with(first
  | (refine wpList_load_mid U 41 _ U w.heap.size 0 U (D M S) _ HB4.out.c underlying41 U bV ?_)
  | (go_at_call 9;refine HR0.out.mono ?_;rintro e w5 ⟨X,SX,a1,a2,a3,m1,m2,m3,c1,c2,c3,rfl,hs5,hn5,t,hx5⟩
     have H:Below w5.heap.size w5 (w5.alloc (.cells #[.slice none 0 0,.slice none 0 0,.slice none 0 0] 47)):=stA (J w5) _;have HB45:=hid ((HB4.out.kept t).kept H);have HB85:=hid ((HB8.out.kept t).kept H);have HJ5:=hid (F.out.same _ _ _ _ HJ1.out (ax t.size H.size) ((H.block _ (ap (F.out.q _ _ _ HJ1.out) t.size)).trans (t.block _ (F.out.q _ _ _ HJ1.out))) (λk e=>by cases e));have HL5:=hid ((HL1.out.trans (Lw.of (g:=none) t) (λk e=>by cases e)).trans (Lw.of (g:=none) H) (λk e=>by cases e));have HS5:=hid hs5;have HS6:=hid (hs5.kept H);have I:Hid (dY (w.heap.size+2) SX):=hid (hn5.mono (by simp));have HX5:=hid hx5;have HZ5:Hid (w.heap.size+2<=w5.heap.size):=hid (by have:=t.size;simp at this;omega);have HS3:=hid (Bx.new w5 nil3 47 (b:=w5.heap.size) U);clear hs5 hn5 t hx5 H)
  | (refine wpList_store_mid U 41 _ _ U w.heap.size 0 (D X SX).toArray U U (HB45.out.there 0 75 (by rw[cy];omega)) bV (fG _ _ (jL HS5.out)) ?_
     refine Pl.cutL (λY=>FI q w ae X SX [] none Y/\Bx Y w5.heap.size nil3) ⟨FI.of F.out W.out.2 HL5.out HB45.out (cy _ _) HB85.out HJ5.out (λk e=>by cases e) HS6.out I.out (λj hj a m c e _ e'=>by cases e'),DW.bb HS3.out (by have:=HZ5.out;omega)⟩ ?_;rintro Y1 ⟨hY1,hY1s⟩;have HY1:=hid hY1;have HY1s:=hid hY1s;clear hY1 hY1s)
  | (refine wpList_store_mid U 47 _ _ U w5.heap.size 0 #[.slice a1 m1 c1,.slice a2 m2 c2,.slice a3 m3 c3] U U (HY1s.out.there 0 3 (by simp)) jK (jO _ _ _ _ _ _ _ _ _) ?_
     refine Pl.cutL (FI q w ae X SX [] none) (HY1.out.far F.out W.out.2 HZ5.out (λj hj a m c e hm=>gc (HS5.out.lt j hj a m c e hm)) (by simp) _) ?_;intro Y2 hY2;have u:=hid hY2;clear hY2))
 clear HB4 HB8 HB45 HB85 HJ1 HJ5 HL1 HL5 HS3 HS5 HS6 HY1 HY1s HZ5 I HR0;by_cases hr:r=0
 case neg =>
  have E:=hid hr
  go_wp2_with (refine wpList_store_mid U 41 _ _ U (w.heap.size+1) 0 (D aE aM).toArray U U (u.out.rb.there 0 75 (by rw[cy];omega)) bV (fG _ _ pT) ?_
               refine Pl.cutL (FR q w ae aE aM _ _) (FI.ret F.out W.out.2 u.out (tj _) (vz _)) ?_;intro V T;have p:=hid T;clear T)
  refine ao (v:=.tuple #[.agg (D aE aM).toArray,.bool false,.int .i64 r]) ?_ U ⟨aE,aM,false,r,_,_,U,Or.inl ⟨E.out,U,U,Or.inl (by unfold gQ;rw[<- HRE.out,G E.out])⟩,p.out.jj,p.out.sl,p.out.low,p.out.nw.mono (by omega)⟩;have l1:=run_loadVar_mid V (w.heap.size+1) 0 41 _ _ p.out.rb.c underlying41 U bV;simp only[results,results50];simp;show (Result.andThen (Sem.run prog (loadVar 41 ⟨w.heap.size+1,0,none⟩) V) _)=_;rw[l1];rfl
 case pos =>
  subst hr;have y:=HRE.out.symm;have h1:M.chk=0:=by
   unfold bF at y;split at y
   ·assumption
   ·exact y
  have h2:chkIn l M.clock=0:=by
   unfold bF at y;rw[Q h1] at y;split at y
   ·assumption
   ·exact y
  have hX:=(HX5.out U).1;have hXM:X=M:=hX;subst hXM;have hfit:=(HX5.out U).2;have E:=hid (InR.of h2 HDN.out);have HFIT:=hid hfit;have hcl:=hfit.clock;obtain⟨cl0,cl1⟩:=hcl;have x72:=u.out.bx.at 72 (.int .i64 X.clock) U;have xz:=u.out.bx.z;clear hX y h1 h2 hfit;by_cases hg:0<=n/\n<=500/\X.clock+n<=200000
  case neg =>
   have HG:Hid (gQ X l n=3):=hid (by unfold gQ;rw[<- HRE.out,Q U,G hg]);have hc:n<0 \/ (¬ n<0/\500<n) \/ (¬ n<0 /\ ¬ 500<n/\200000<X.clock+n/\IntKind.i64.wrap (X.clock+n)=X.clock+n):=by
    rw[aI];omega
   clear hg;rcases hc with g1|⟨g1,g2⟩|⟨g1,g2,g3,g4⟩
   all_goals
    go_wp2_with (refine wpList_store_mid U 41 _ _ U (w.heap.size+1) 0 (D aE aM).toArray U U (u.out.rb.there 0 75 (by rw[cy];omega)) bV (fG _ _ pT) ?_
                 refine Pl.cutL (FR q w ae aE aM _ _) (FI.ret F.out W.out.2 u.out (tj _) (vz _)) ?_;intro V T;have p:=hid T;clear T)
    refine ao (v:=.tuple #[.agg (D aE aM).toArray,.bool false,.int .i64 3]) ?_ U ⟨aE,aM,false,3,_,_,U,Or.inl ⟨by decide,U,U,Or.inl HG.out.symm⟩,p.out.jj,p.out.sl,p.out.low,p.out.nw.mono (by omega)⟩;have l1:=run_loadVar_mid V (w.heap.size+1) 0 41 _ _ p.out.rb.c underlying41 U bV;simp only[results,results50];simp;show (Result.andThen (Sem.run prog (loadVar 41 ⟨w.heap.size+1,0,none⟩) V) _)=_;rw[l1];rfl
  case pos =>
   obtain⟨g0,g1,g2⟩:=hg;have HG:Hid (gQ X l n=0):=hid (by unfold gQ;rw[<- HRE.out,Q U,Q ⟨g0,g1,g2⟩]);obtain⟨N,rfl⟩:=aB g0;obtain⟨M,hM⟩:∃ M,M=X:=⟨_,U⟩
   subst hM;have k1:¬ (N:Int)<0:=by omega
   have k2:¬ 500<(N:Int):=by omega
   have k3:¬ 200000<M.clock+(N:Int):=by omega
   have k4:IntKind.i64.wrap (M.clock+(N:Int))=M.clock+N:=by rw[aI];omega
   have I:Hid (N<=500):=hid (by omega);have HCL:Hid (0<=M.clock/\M.clock+N<=200000):=hid ⟨cl0,g2⟩;have HTN:Hid (((N:Int)).toNat=N):=hid (by simp);clear g0 g1 g2;go_wp2;clear x72 xz k1 k2 k3 k4;go_loopw [12] (λv12 wr=>∃(j:Nat) (js:List Nat) (X:Mach) (SX:Sl) (g:Option Nat),v12=.int .i64 0/\Way M l N js j/\(∀ i∈js,b (M.aft l i)=false)/\X=M.aft l j/\X.fit/\FI q w ae X SX ((js.map (λi=>f (M.aft l i))).flatten) g wr) (λ_ wr=>M.clock.toNat+N-lA w.heap.size wr)
   case atStart=>exact⟨0,[],M,SX,none,U,Way.nil,λi hi=>by simp at hi,U,HFIT.out,u.out⟩
   case round =>
    clear u HX5;obtain⟨j,js,X,s,g,rfl,hWy,hbs,hX,hfx,hI⟩:=hrel;have hXc:X.clock=M.clock+j:=by rw[hX];exact pU E.out j
    have hle:=hWy.le E.out;have x72:=hI.bx.at 72 (.int .i64 X.clock) U;have xz:=hI.bx.z;have o:=hid hI;have HWY:=hid hWy;have HBS:=hid hbs;have HX:=hid hX;have HFX:=hid hfx;have HXE:=hid hXc;have HLE:=hid hle;clear hWy hbs hX hfx hI;by_cases hlt:j<N
    ·have hd1:X.clock<M.clock+(N:Int):=by omega
     have hlk:=HLK.out ((js.map (λi=>f (M.aft l i))).flatten) g X s wr o.out.jj (o.out.low.below0 HLW.out W.out.1) o.out.sl HFX.out (by have:=znX HF2.out (M.aft l) js;have:=I.out;omega);obtain⟨bb,hbb⟩:∃ bb,bb=b X:=⟨_,U⟩
     rw[<- hbb] at hlk;have HLX:=hid hlk;have HBB:=hid hbb;have HXC:Hid (0<=X.clock/\X.clock<=200000):=hid (by have:=HCL.out;have:=HXE.out;omega);have Z:=hid hlt;have HIB:=hid o.out.bx;clear hlk hbb hlt hle hXc;cases bb
     ·obtain⟨dd,hdd⟩:∃ dd,dd=wnx M l N j-j:=⟨_,U⟩
      have hwi:min X.next (M.clock+(N:Int))-X.clock=(dd:Int):=by rw[HXE.out,HX.out,hdd];exact zsB E.out Z.out
      have hdb:=znW E.out Z.out;have hdf:IntKind.i64.wrap (min X.next (M.clock+(N:Int))-X.clock)=(dd:Int):=by rw[hwi,aI];have:=I.out;omega
      have hrun:∀(v1:Value) (Y:World),Below w0.heap.size w0 Y->bM Y s X->bE w0.heap.size Y v1 (comes X.clock l)->Calls prog 9 #[.agg (D X s).toArray,v1,.int .i64 dd] Y λe w'=>∃(X':Mach) (S':Sl) (a1 a2 a3:Option Addr) (n1 n2 n3 c1 c2 c3:Nat),e=.returned (.tuple #[.agg (D X' S').toArray,.agg #[.slice a1 n1 c1,.slice a2 n2 c2,.slice a3 n3 c3],.int .i64 (bF X (comes X.clock l) dd)])/\bM w' S' X'/\dY Y.heap.size S'/\Below Y.heap.size Y w'/\(bF X (comes X.clock l) dd=0->X'=X.aft (comes X.clock l) dd/\X'.fit):=λv1 Y hb hs hi=>by
       have hI:InR X (comes X.clock l):=by have:=E.out.aft j;rw[<- HX.out,<- HXE.out] at this;exact this
       exact zhJ X s v1 (comes X.clock l) dd Y hs (λk hk=>ax (sH HFX.out k hk) (by decide)) { HFX.out with main:=HFX.out.main } (rt HSH.out (hb.block _ (zeh HSH.out))) (hi.mono hb.size) hI.dn (by have:=I.out;omega)
      obtain⟨r2,hr2⟩:∃ r2,r2=bF X (comes X.clock l) dd:=⟨_,U⟩
      rw[<- hr2] at hrun;have HRUN:=hid hrun;have HR2:=hid hr2;have HDD:=hid hdd;have HDB:=hid hdb;have HWI:=hid hwi;clear hrun hr2 hdd hdb hwi;go_wp2_with (first
       | (refine wpList_load_mid U 41 _ U w.heap.size 0 U (D X s) _ o.out.bx.c underlying41 U bV ?_)
       | (refine HLX.out.mono ?_;rintro e wl ⟨rfl,g2,hj2,hg2,hl2⟩;have HI:=hid (o.out.look W.out.2 hl2 hj2 hg2);clear hj2 hg2 hl2))
      refine mI (S:=λw'=>Bx w' w.heap.size (D X s)) (st:=12) (by kernel_rfl) ?_;have L:=HI.out.bx.drew;refine bI 1 (λ_=>L) ?_;refine bI 2 (λ_=>L) ?_;refine bI 7 (λ_=>L) ?_;refine bI 9 (λ_=>L) ?_;refine nV [] 0 (.agg (D X s).toArray) U (λw' P=>kt 41 _ U w.heap.size 0 U (D X s) _ P.c underlying41 U bV) L ?_;refine nV [6] 5 (.agg (D X s).toArray) U (λw' P=>kt 41 _ U w.heap.size 0 U (D X s) _ P.c underlying41 U bV) L ?_;refine j1 [4] 3 (λ_ P=>P.at 72 (.int .i64 X.clock) U) L ?_;refine j1 [11] 10 (λ_ P=>P.at 72 (.int .i64 X.clock) U) L ?_;refine fP 4 (λK hK=>?_);go_simp;go_at_call 96
      refine(Wc.coming l v w0.heap.size X.clock _ (HIN.out.kept (HI.out.low.below0 HLW.out W.out.1).drew)).mono ?_;rintro e w1 ⟨⟨v1,rfl,hin1⟩,rfl⟩;have HI1:=hid (HI.out.kept F.out (J wl).drew);have HN1:=hid hin1;clear hin1;try go_wp2_with fail
      refine gL hK (λ_=>HI1.out.bx) ?_;clear hK K;clear L;have L:=HI1.out.bx;refine fP 6 (λK hK=>?_);go_simp;go_at_call 97
      refine(Wc.next X s HXC.out _).mono ?_;rintro e w2 ⟨rfl,hb2⟩;have B:=hid (HI1.out.kept F.out hb2);have HB2:=hid hb2;clear hb2;try go_wp2_with fail
      refine gL hK (λ_=>B.out.bx) ?_;clear hK K;clear L;have L:=B.out.bx;refine bI 8 (λ_=>L) ?_;refine bI 11 (λ_=>L) ?_;refine fP 12 (λK hK=>?_);go_simp;go_at_call 9
      refine(HRUN.out v1 w2 (B.out.low.below0 HLW.out W.out.1) B.out.sl (HN1.out.kept (HB2.out.mono (ax HZ0.out HI1.out.low.size)))).mono ?_;rintro e w3 ⟨X',S',a1,a2,a3,n1,n2,n3,c1,c2,c3,rfl,hs3,hn3,hb3,hx3⟩;have HI3:=hid (B.out.kept F.out hb3);have HS3:=hid hs3;have HN3:Hid (dY (w.heap.size+2) S'):=hid (hn3.mono B.out.rb.z);have HO3:Hid (nM g2 S'):=hid (λj hj a m c e _ e'=>by have:=F.out.g _ _ _ B.out.jj _ e';have:=hn3 j hj a m c e;omega);have HX3:=hid hx3;clear hs3 hn3 hb3 hx3;try go_wp2_with fail
      refine gL hK (λh=>by simp at h) ?_;clear hK K;clear L;refine bI 13 (λh=>by simp at h) ?_;refine bI 14 (λh=>by simp at h) ?_;refine bI 15 (λh=>by simp at h) ?_;refine bI 16 (λh=>by simp at h) ?_;refine fP 17 (λK hK=>?_);refine lW U 41 _ _ U w.heap.size 0 (D X' S').toArray U U (HI3.out.bx.there 0 75 (by rw[cy];omega)) bV (fG _ _ (jL HS3.out)) ?_;refine hK.out _ _ (λh=>by simp at h) ?_;clear hK K;refine bI 18 (λh=>by simp at h) ?_;refine lL (by kernel_rfl) ?_ _;refine Pl.cutE (FI q w ae X' S' ((js.map (λi=>f (M.aft l i))).flatten++f X) g2) (HI3.out.put F.out W.out.2 HS3.out HN3.out HO3.out) ?_;intro V3 hV3;have HV3:=hid hV3;clear hV3 HI HI1 B HI3 o HB2 HN1 HLX hdf;by_cases hr3:r2=0
      ·subst hr3
       go_wp2;refine⟨⟨wnx M l N j,js++[j],X',S',g2,U,Way.cons HWY.out Z.out,?_,?_,(HX3.out U).2,?_⟩,?_⟩
       ·intro i hi
        rcases bS.1 hi with hi|hi
        ·exact HBS.out i hi
        ·rw[ch.1 hi,<- HX.out];exact HBB.out.symm
       ·rw[(HX3.out U).1,HX.out,pU E.out j,<- zsz E.out,HDD.out]
        congr 1;have:=HDB.out;omega
       ·rw[fM,List.flatten_append]
        simp only[bP,cB,gt,kR,bZ,<- HX.out];exact HV3.out
       ·rw[zvm HV3.out.bx,zvm HIB.out,(HX3.out U).1]
        have e1:(X.aft (comes X.clock l) dd).clock=M.clock+(wnx M l N j:Nat):=by
         rw[HX.out,pU E.out j,<- zsz E.out,pU E.out,HDD.out];have:=HDB.out;omega
        rw[e1,HXE.out];have:=HDB.out;have:=HCL.out;have:=Z.out;omega
      ·have HR3:=hid hr3
       go_wp2_with (refine wpList_store_mid U 41 _ _ U (w.heap.size+1) 0 (D aE aM).toArray U U (HV3.out.rb.there 0 75 (by rw[cy];omega)) bV (fG _ _ pT) ?_
                    refine Pl.cutL (FR q w ae aE aM _ _) (FI.ret F.out W.out.2 HV3.out (tj _) (vz _)) ?_;intro V T;have p:=hid T;clear T)
       refine ao (v:=.tuple #[.agg (D aE aM).toArray,.bool false,.int .i64 r2]) ?_ U ⟨aE,aM,false,r2,_,_,U,Or.inl ⟨HR3.out,U,U,Or.inr ⟨HG.out,Wc.long HFIT.out E.out I.out HCL.out Z.out HX.out HFX.out HDD.out (HR2.out ▸ HR3.out)⟩⟩,p.out.jj,p.out.sl,p.out.low,p.out.nw.mono (by omega)⟩;have l1:=run_loadVar_mid V (w.heap.size+1) 0 41 _ _ p.out.rb.c underlying41 U bV;simp only[results,results50];simp;show (Result.andThen (Sem.run prog (loadVar 41 ⟨w.heap.size+1,0,none⟩) V) _)=_;rw[l1];rfl
     ·go_wp2_with (first
       | (refine wpList_load_mid U 41 _ U w.heap.size 0 U (D X s) _ HI.out.bx.c underlying41 U bV ?_)
       | (refine wpList_load_mid U 41 _ U w.heap.size 0 U (D X s) _ o.out.bx.c underlying41 U bV ?_)
       | (refine HLX.out.mono ?_;rintro e wl ⟨rfl,g2,hj2,hg2,hl2⟩;have HI:=hid (o.out.look W.out.2 hl2 hj2 hg2);clear hj2 hg2 hl2)
       | (refine wpList_store_mid U 41 _ _ U (w.heap.size+1) 0 (D X s).toArray U U (HI.out.rb.there 0 75 (by rw[cy];omega)) bV (fG _ _ (jL HI.out.sl)) ?_
          refine Pl.cutL (FR q w ae X s _ _) (FI.ret F.out W.out.2 HI.out HI.out.sl HI.out.nw) ?_;intro V T;have p:=hid T;clear T))
      refine ao (v:=.tuple #[.agg (D X s).toArray,.bool true,.int .i64 0]) ?_ U ⟨X,s,true,0,_,_,U,Or.inr ⟨U,HG.out,HFIT.out,E.out,js,j,by rw[HTN.out];exact HWY.out,HX.out,HBS.out,Or.inr ⟨U,by rw[HTN.out];exact Z.out,HBB.out.symm,U⟩⟩,p.out.jj,p.out.sl,p.out.low,p.out.nw.mono (by omega)⟩;have l1:=run_loadVar_mid V (w.heap.size+1) 0 41 _ _ p.out.rb.c underlying41 U bV;simp only[results,results50];simp;show (Result.andThen (Sem.run prog (loadVar 41 ⟨w.heap.size+1,0,none⟩) V) _)=_;rw[l1];rfl
    ·have hd1:¬ X.clock<M.clock+(N:Int):=by omega
     have HJN:Hid (j=N):=hid (by omega);clear hlt hle hXc;go_wp2_with (first
      | (refine wpList_load_mid U 41 _ U w.heap.size 0 U (D X s) _ o.out.bx.c underlying41 U bV ?_)
      | (refine wpList_store_mid U 41 _ _ U (w.heap.size+1) 0 (D X s).toArray U U (o.out.rb.there 0 75 (by rw[cy];omega)) bV (fG _ _ (jL o.out.sl)) ?_
         refine Pl.cutL (FR q w ae X s _ _) (FI.ret F.out W.out.2 o.out o.out.sl o.out.nw) ?_;intro V T;have p:=hid T;clear T))
     refine ao (v:=.tuple #[.agg (D X s).toArray,.bool false,.int .i64 0]) ?_ U ⟨X,s,false,0,_,_,U,Or.inr ⟨U,HG.out,HFIT.out,E.out,js,j,by rw[HTN.out];exact HWY.out,HX.out,HBS.out,Or.inl ⟨U,by rw[HTN.out];exact HJN.out,U⟩⟩,p.out.jj,p.out.sl,p.out.low,p.out.nw.mono (by omega)⟩;have l1:=run_loadVar_mid V (w.heap.size+1) 0 41 _ _ p.out.rb.c underlying41 U bV;simp only[results,results50];simp;show (Result.andThen (Sem.run prog (loadVar 41 ⟨w.heap.size+1,0,none⟩) V) _)=_;rw[l1];rfl
theorem Wc.many(g o n a:Nat)(rom:List UInt8)(h:rom.length=n)(pc:Nat)(hp:pc<=65535)(hc:n<=a)(I:n<=9223372036854775807)(z:2<=n-pc)(w:World)(B:g<w.heap.size)(hb:fU w g o rom)(q:AF w):Calls prog 99 #[.slice (some ⟨g,o,none⟩) n a,.int .u16 pc] w λe w'=>e=.returned (.string (aT (dF rom pc)))/\Below w.heap.size w w':=by
 obtain⟨m,x⟩:∃ m,m=min ((n-pc)/2*2) 4:=⟨_,U⟩
 have y:min (pc:Int) (n:Int)=(pc:Int):=by omega
 have h1:pc<=n:=by omega
 have h2:pc<=a:=by omega
 have h3:decide (((n-pc:Nat):Int)<2)=false:=by simp;omega
 have E:¬ (((n-pc:Nat):Int)<2):=by omega
 have L:IntKind.i64.wrap (pc:Int)=pc:=by rw[aI];omega
 have F:min (((n-pc:Nat):Int)/2*2) 4=(m:Int):=by omega
 have i:ip w (.slice (some ⟨g,o+pc,none⟩) m (a-pc)) ((rom.drop pc).take m):=Or.inr ⟨g,o+pc,(a-pc),by rw[bu,dh,h,gY (by omega)],by rw[bu,dh,h];omega,B,λj c r=>by
  have s:j<m:=by
   have:=(aA.1 r).1;rw[bu] at this;omega
  rw[cK s] at r;exact hb.drop pc j c r⟩
 have d:((rom.drop pc).take m).length=m:=by rw[bu,dh,h];omega
 have f:ky ((rom.drop pc).take m)=(S.list ((rom.drop pc).take m),0):=by
  unfold ky;rw[d,G (by omega),G (by omega)]
 have t:=hid (zsT _ _ w i q);rw[f] at t;obtain⟨T,p⟩:∃ T,T=S.list ((rom.drop pc).take m):=⟨_,U⟩
 have k:T.length<=10000:=by
  rw[p];unfold S.list;have:=zhI ((rom.drop pc).take m).length ((rom.drop pc).take m);omega
 have b:dF rom pc=(Lib.cut T [10]).1:=by
  unfold dF;rw[h,G (by omega),<- x,<- p]
 rw[<- p] at t;rw[b];have H:=hid q;have u:=hid k;have h4:m<=(a-pc):=by omega
 have M:m<=n-pc:=by omega
 have N:¬ a=pc:=by omega
 clear f b p k d i q hb x z h;go_enter func99,ntmps99;go_wp2_with (first
  | (go_at_call 53;refine(Wc.cut T u.out _ (H.out.kept l)).mono ?_;rintro e w2 ⟨rfl,v⟩)
  | (go_at_call 174;refine t.out.mono ?_;rintro e w1 ⟨rfl,l⟩))
 go_ret;exact⟨U,bn l v⟩
theorem Wc.text(v:Value)(rom:List UInt8)(pc:Int)(hp:0<=pc/\pc<=65535)(w:World)(f:sliceAt w v rom)(i:rom.length<=1024)(h:AF w):Calls prog 99 #[v,.int .u16 pc] w λe w'=>e=.returned (.string (aT (dF rom pc.toNat)))/\Below w.heap.size w w':=by
 obtain⟨p,rfl⟩:=aB hp.1;rw[bH];have c:p<=65535:=by omega
 rcases f with⟨a,b,rfl,rfl⟩|⟨g,o,b,rfl,h2,h3,h4⟩
 ·refine(Wc.few a 0 b p c (aU _) (by omega) (by omega) w).mono ?_
  rintro e w' ⟨rfl,rfl⟩;exact⟨by unfold dF;rw[Q (by simp)],J _⟩
 ·by_cases d:rom.length-p<2
  ·refine(Wc.few _ rom.length b p c h2 (by omega) d w).mono ?_
   rintro e w' ⟨rfl,rfl⟩;exact⟨by unfold dF;rw[Q d],J _⟩
  ·exact Wc.many g o rom.length b rom U p c h2 (by omega) (by omega) w h3 h4 h
def Mach.mdue(M:Mach):Bool:=decide (M.mready<=M.clock) && (!M.main.Waits && !(M.main.May && (M.t.g || M.b.g)))
def Mach.adue(M:Mach):Bool := !M.held && decide (M.aready<=M.clock) && (!M.aux.Waits && !(M.aux.May && M.rung))
def Mach.mdid(M:Mach):List Dd:=if M.mdue then [⟨M.clock,false,M.main.PC,dF M.mrom M.main.PC.toNat⟩] else []
def Mach.adid(M:Mach):List Dd:=if M.adue then [⟨M.clock,true,M.aux.PC,dF M.arom M.aux.PC.toNat⟩] else []
def Mach.due(M:Mach):List Dd:=M.mdid++M.adid
structure WD (w : World) (M : Mach) (S : Sl) (Y : World) : Prop where
 low:Below w.heap.size w Y
 bx:Bx Y w.heap.size (D M S)
theorem WD.kept{w:World}{M:Mach}{S:Sl}{Y Y':World}(h:WD w M S Y)(hb:Below Y.heap.size Y Y'):WD w M S Y':=⟨bn h.low hb,h.bx.kept hb⟩
--MID
theorem WD.s3{w:World}{M:Mach}{S:Sl}{Y:World}(h:WD w M S Y):Y.cell? ⟨w.heap.size,72,none⟩=some (.int .i64 M.clock)/\Y.cell? ⟨w.heap.size,8,none⟩=some (.int .u16 M.main.PC)/\Y.cell? ⟨w.heap.size,30,none⟩=some S.mr:=⟨h.bx.at 72 _ rfl,h.bx.at 8 _ rfl,h.bx.at 30 _ rfl⟩
theorem WD.s5{w:World}{M:Mach}{S:Sl}{Y:World}(h:WD w M S Y):Y.cell? ⟨w.heap.size,72,none⟩=some (.int .i64 M.clock)/\Y.cell? ⟨w.heap.size,23,none⟩=some (.int .u16 M.aux.PC)/\Y.cell? ⟨w.heap.size,31,none⟩=some S.ar:=⟨h.bx.at 72 _ rfl,h.bx.at 23 _ rfl,h.bx.at 31 _ rfl⟩
theorem WD.grown{w:World}{M:Mach}{S:Sl}{Y Y':World}{v:Value}{n:Nat}{xs:List Value}{t:TypeId}{z:Nat}(h:WD w M S Y)(b:Y.ownsRow (w.heap.size+1) t z v n xs)(a:Y.grownBy Y' v.ownBlock):WD w M S Y' :=
 ⟨h.low.grown a h.low.size (λk e=>by have:=(fZ b k e).1;omega),h.bx.same a.size (a.block _ h.bx.z (λe=>by have:=(fZ b _ e.symm).1;omega))⟩
theorem vA{B:Nat}{t:TypeId}{z n:Nat}{v:Value}{xs:List Value}{Y Y':World}(h:Y.ownsRow B t z v n xs)(hb:Below Y.heap.size Y Y'):Y'.ownsRow B t z v n xs :=
 h.kept (mX hb) (by cases e:v.ownBlock with|none=>exact Or.inl rfl|some g=>exact Or.inr (by simp))
theorem zmY{P:Program}{a:Act}{o:Oper}{w:World}(t:TypeId)(i j k l:Nat)(x y z u:Operand)(g:o.op=.build t #[(i,x),(j,y),(k,z),(l,u)])(c d e f v:Value)(h:a.eval x=c)(m:a.eval y=d)(n:a.eval z=e)(p:a.eval u=f)
 (b:(Instr.build t #[(i,c),(j,d),(k,e),(l,f)]).run P w=.ok v w):(execOp a.eval o).run P w=.ok (.value v) w :=
 zde t _ g v (by simp only[dj,bP,cB,h,m,n,p];exact b)
theorem zuP(c p:Int)(t:List UInt8)(w:World):(Instr.build 78 #[(0,.int .i64 c),(2,.int .u16 p),(3,.string (aT t))]).run prog w=.ok (.agg (fy ⟨c,false,p,t⟩).toArray) w:=by kernel_rfl
theorem zuQ(c p:Int)(t:List UInt8)(w:World):(Instr.build 78 #[(0,.int .i64 c),(1,.bool true),(2,.int .u16 p),(3,.string (aT t))]).run prog w=.ok (.agg (fy ⟨c,true,p,t⟩).toArray) w:=by kernel_rfl
theorem znY(x:Dd)(w:World):(Instr.buildSlice 70 1 #[(0,.agg (fy x).toArray)]).run prog w=.ok (.slice (some ⟨w.heap.size,0,none⟩) 1 1) (w.alloc (.cells (fy x).toArray 78)):=by kernel_rfl
theorem zja:(Tryz.prog.info? 78).map (λi=>(i.zero,i.size,i.bytes))=some (some (.agg #[.int .i64 0,.bool false,.int .u16 0,.string ⟨#[]⟩]),4,32):=by kernel_rfl
theorem zmZ(x:Dd):∀ u∈fy x,u.oneCell'=true:=λu a=>by
 simp only[fy,aV,bJ,dG] at a;rcases a with rfl|rfl|rfl|rfl <;> rfl
theorem vC{B:Nat}{t:TypeId}{z n:Nat}{v:Value}{xs:List Value}{Y:World}(h:Y.ownsRow (B+1) t z v n xs):Y.ownsRow B t z v n xs:=by
 obtain⟨e,h|⟨g,c,fr,h1,h2,h3⟩⟩:=h
 ·exact⟨e,Or.inl h⟩
 ·exact⟨e,Or.inr ⟨g,c,fr,h1,by omega,h3⟩⟩
theorem WD.auxR{w:World}{M:Mach}{S:Sl}{Y:World}(h:WD w M S Y):Y.rangeAt w.heap.size 15 (bG M.aux):=λi v hi=>by
 refine h.bx.at (15+i) v ?_;have a:=(aA.1 hi).1;unfold D;rw[aO (by show 15<=15+i;omega),aR (by show 15+i-15<_;omega),show 15+i-(bG M.main).length=i by show 15+i-15=i;omega];exact hi
theorem zwT(l:List Dd)(x:Dd):jA (l++[x])=jA l++fy x:=by simp[jA]
theorem Wc.due(M:Mach)(S:Sl)(w:World)(hs:bM w S M)(hf:M.fit)(hF:AF w):Calls prog 52 #[.agg (D M S).toArray] w λe w'=>∃ v,e=.returned v/\w'.ownsRow w.heap.size 78 4 v M.due.length (jA M.due)/\Below w.heap.size w w':=by
 have hW:WD w M S (w.alloc (.cells (D M S).toArray 41)):=⟨stA (J w) _,Bx.new w (D M S) 41 (b:=w.heap.size) U⟩
 have E:=hid hW;have HS:=hid hs;have F:=hid hf;have HF:=hid hF;clear hW hs hf hF;go_enter func52,ntmps52;go_upto_region 2 with fail
 go_cut [1,3,21] (λv1 v3 v21 Y=>v1=pt w.heap.size 0/\v3=.slice none 0 0/\v21=.bool M.mdue/\WD w M S Y)
 case first =>
  have x72:=E.out.bx.at 72 (.int .i64 M.clock) U;have x73:=E.out.bx.at 73 (.int .i64 M.mready) U;have x44:=E.out.bx.at 44 (.bool M.t.g) U;have x63:=E.out.bx.at 63 (.bool M.b.g) U;have hz:=E.out.bx.z;have N1:Hid ((w.alloc (.cells (D M S).toArray 41)).rangeAt w.heap.size 0 (bG M.main)):=hid (λj v hj=>by rw[aN];exact E.out.bx.at j v (by unfold D;rw[aR (aA.1 hj).1];exact hj));have r:Hid (M.mdue=(decide (M.mready<=M.clock) && (!M.main.Waits && !(M.main.May && (M.t.g || M.b.g))))):=hid U;obtain⟨tg,htg⟩:∃ b,b=M.t.g:=⟨_,U⟩
  rw[<- htg] at x44 r;clear htg;by_cases H:M.mready<=M.clock
  ·have hd:decide (M.mready<=M.clock)=true:=aL H
   rw[hd] at r;clear H;cases tg;all_goals
    go_wp2_with (first
     | (go_at_call 98;refine(znV M.main _ _).mono ?_;rintro e w1 ⟨rfl,s⟩;have P:=hid (E.out.kept s))
     | (refine Bu.loadG U 25 _ U w.heap.size 0 U (bG M.main) _ N1.out underlying25 U nU ?_))
    go_meet;exact⟨U,U,by rw[r.out];simp,P.out⟩
  ·have hd:decide (M.mready<=M.clock)=false:=aF H
   rw[hd] at r;clear H;go_wp2;go_meet;exact⟨U,U,by rw[r.out];rfl,E.out⟩
 case rest =>
  obtain⟨rfl,rfl,rfl,hY⟩:=hcut;have o:=hid hY;have R:Hid (wc.ownsRow (w.heap.size+1) 78 4 (.slice none 0 0) ([]:List Dd).length (jA [])):=hid ⟨U,Or.inl ⟨U,U⟩⟩;have n:Hid (([]:List Dd).length<=1):=hid (aU _);have u:Hid (M.mdid=if M.mdue then [⟨M.clock,false,M.main.PC,dF M.mrom M.main.PC.toNat⟩] else []):=hid U;obtain⟨md,hmd⟩:∃ b,b=M.mdue:=⟨_,U⟩
  rw[<- hmd] at u ⊢;clear hY hmd E;cases md
  case' true =>
   go_wp2;refine wp_region_held_drew (S:=λw'=>w'.cell? ⟨w.heap.size,72,none⟩=some (.int .i64 M.clock)/\w'.cell? ⟨w.heap.size,8,none⟩=some (.int .u16 M.main.PC)/\w'.cell? ⟨w.heap.size,30,none⟩=some S.mr) (by kernel_rfl) (o.out.s3) ?_;intro a;refine ee 0 ⟨some 22,_,_,_,_,none⟩ a ?_;simp only[Act.put,xA,xB,xC];refine ee 1 ⟨some 23,_,_,_,_,none⟩ a ?_;simp only[Act.put,xA,xB,xC];refine ee 3 ⟨some 25,_,_,_,_,none⟩ a ?_;simp only[Act.put,xA,xB,xC];refine ee 4 ⟨some 26,_,_,_,_,none⟩ a ?_;simp only[Act.put,xA,xB,xC];refine ee 6 ⟨some 28,_,_,_,_,none⟩ a ?_;simp only[Act.put,xA,xB,xC];refine ee 8 ⟨some 30,_,_,_,_,none⟩ a ?_;simp only[Act.put,xA,xB,xC];refine ee 9 ⟨some 31,_,_,_,_,none⟩ a ?_;simp only[Act.put,xA,xB,xC];refine nW 2 (λ_ c=>c.1) a ?_;refine nW 5 (λ_ c=>c.2.1) a ?_;refine nW 7 (λ_ c=>c.2.2) a ?_;refine nW 10 (λ_ c=>c.2.1) a ?_;refine dQ 11 (λK k=>?_);go_simp;go_at_call 99
   refine(Wc.text S.mr M.mrom M.main.PC F.out.main.2.2 _ (HS.out.kept o.out.low.drew 0 (by decide)) F.out.mrom (HF.out.kept o.out.low.drew)).mono ?_;rintro e w2 ⟨rfl,d⟩;have l:=hid (o.out.kept (bn (J wc).drew d));have I:=hid (vA R.out (bn (J wc).drew d));clear d;try go_wp2_with fail
   refine eP k (l.out.s3) (λ_=>?_);clear k K;clear a;have a:=l.out.s3;refine iq 12 (.agg (fy ⟨M.clock,false,M.main.PC,dF M.mrom M.main.PC.toNat⟩).toArray) U (λw' _=>tO 78 0 2 3 _ _ _ U (.int .i64 M.clock) (.int .u16 M.main.PC) (.string (aT (dF M.mrom M.main.PC.toNat))) (.agg (fy ⟨M.clock,false,M.main.PC,dF M.mrom M.main.PC.toNat⟩).toArray) U U U (zuP _ _ _ w')) a ?_;refine dQ 13 (λK k=>?_);refine sS U 70 1 0 _ U (.agg (fy ⟨M.clock,false,M.main.PC,dF M.mrom M.main.PC.toNat⟩).toArray) U (znY ⟨M.clock,false,M.main.PC,dF M.mrom M.main.PC.toNat⟩ _) ?_;have i:=hid (l.out.kept (stA (J w2) (.cells (fy ⟨M.clock,false,M.main.PC,dF M.mrom M.main.PC.toNat⟩).toArray 78)));have p:=hid (vA I.out (stA (J w2) (.cells (fy ⟨M.clock,false,M.main.PC,dF M.mrom M.main.PC.toNat⟩).toArray 78)));refine eP k (i.out.s3) (λ_=>?_);clear k K;clear a;have a:=i.out.s3;refine dQ 14 (λK k=>?_);obtain⟨i1,T,V,W,X⟩:=info_parts zja
   refine step_append_lies _ (by rfl) (.tmp 22) (.tmp 35) 70 (by rfl) (w.heap.size+1) 78 i1 _ 4 32 underlying70 T V W X U (by omega) (.slice none 0 0) ([]:List Dd).length (jA ([]:List Dd)) U p.out ⟨w2.heap.size,0,none⟩ 1 1 (fy ⟨M.clock,false,M.main.PC,dF M.mrom M.main.PC.toNat⟩) U U (sT _ w2) (zmZ _) (by omega) (by unfold maxLen;have:=n.out;omega) (by have:=n.out;omega) (ax i.out.bx.z (ak _)) _ U ?_;intro g1 N W3 f x y Z;have L:=hid f;have m:=hid (i.out.grown p.out x);clear f x y Z;refine eP k (m.out.s3) (λ_=>?_);clear k K;clear a;have a:=m.out.s3;refine ee 15 ⟨some 3,_,_,_,_,none⟩ a ?_;simp only[Act.put,xA,xB,xC];refine wpAnyH_done (by kernel_rfl) ?_ _;go_simp;have B:Hid (W3.ownsRow (w.heap.size+1) 78 4 (.slice (some ⟨g1,0,none⟩) 1 N) M.mdid.length (jA M.mdid)):=hid (by rw[u.out];exact L.out);have h:=m;clear L m i p I l a R o n u
  case' false =>
   have B:Hid (wc.ownsRow (w.heap.size+1) 78 4 (.slice none 0 0) M.mdid.length (jA M.mdid)):=hid (by rw[u.out];exact R.out);have h:=o;clear R o n u
  all_goals
   go_upto_region 4 with fail
   go_cut [1,3,53] (λv1 v3 v53 Y=>v1=pt w.heap.size 0/\v53=.bool M.adue/\WD w M S Y/\Y.ownsRow (w.heap.size+1) 78 4 v3 M.mdid.length (jA M.mdid))
   case first =>
    have x68:=h.out.bx.at 68 (.bool M.held) U;have x71:=h.out.bx.at 71 (.bool M.rung) U;have x72:=h.out.bx.at 72 (.int .i64 M.clock) U;have x74:=h.out.bx.at 74 (.int .i64 M.aready) U;have hz:=h.out.bx.z;have N2:=hid h.out.auxR;have q:Hid (M.adue=(!M.held && decide (M.aready<=M.clock) && (!M.aux.Waits && !(M.aux.May && M.rung)))):=hid U;obtain⟨hd,hhd⟩:∃ b,b=M.held:=⟨_,U⟩
    rw[<- hhd] at x68 q;clear hhd;cases hd
    ·by_cases H:M.aready<=M.clock
     ·have hdd:decide (M.aready<=M.clock)=true:=aL H
      rw[hdd] at q;clear H;go_wp2_with (first
       | (go_at_call 98;refine(znV M.aux _ _).mono ?_;rintro e w1 ⟨rfl,s⟩;have P:=hid (h.out.kept s);have HO4:=hid (vA B.out s);clear s)
       | (refine Bu.loadG U 25 _ U w.heap.size 15 U (bG M.aux) _ N2.out underlying25 U nU ?_))
      go_meet;exact⟨U,by rw[q.out];simp,P.out,HO4.out⟩
     ·have hdd:decide (M.aready<=M.clock)=false:=aF H
      rw[hdd] at q;clear H;go_wp2;go_meet;exact⟨U,by rw[q.out];rfl,h.out,B.out⟩
    ·go_wp2
     go_meet;exact⟨U,by rw[q.out];rfl,h.out,B.out⟩
   case rest =>
    obtain⟨rfl,rfl,hY,hO⟩:=hcut;have o:=hid hY;have R:=hid hO;have n:Hid (M.mdid.length<=1):=hid (by unfold Mach.mdid;split <;> simp);have HAI:Hid (M.adid=if M.adue then [⟨M.clock,true,M.aux.PC,dF M.arom M.aux.PC.toNat⟩] else []):=hid U;obtain⟨ad,had⟩:∃ b,b=M.adue:=⟨_,U⟩
    rw[<- had] at HAI ⊢;clear hY hO had h B;cases ad
    ·go_wp2
     go_ret;exact⟨_,U,by show wc.ownsRow _ _ _ _ (M.mdid++M.adid).length (jA (M.mdid++M.adid));rw[HAI.out];simp only[bK,dt,bZ];exact vC R.out,o.out.low⟩
    ·go_wp2
     refine wp_region_held_drew (S:=λw'=>w'.cell? ⟨w.heap.size,72,none⟩=some (.int .i64 M.clock)/\w'.cell? ⟨w.heap.size,23,none⟩=some (.int .u16 M.aux.PC)/\w'.cell? ⟨w.heap.size,31,none⟩=some S.ar) (by kernel_rfl) (o.out.s5) ?_;intro a;refine ee 0 ⟨some 54,_,_,_,_,none⟩ a ?_;simp only[Act.put,xA,xB,xC];refine ee 1 ⟨some 55,_,_,_,_,none⟩ a ?_;simp only[Act.put,xA,xB,xC];refine ee 3 ⟨some 57,_,_,_,_,none⟩ a ?_;simp only[Act.put,xA,xB,xC];refine ee 4 ⟨some 58,_,_,_,_,none⟩ a ?_;simp only[Act.put,xA,xB,xC];refine ee 6 ⟨some 60,_,_,_,_,none⟩ a ?_;simp only[Act.put,xA,xB,xC];refine ee 8 ⟨some 62,_,_,_,_,none⟩ a ?_;simp only[Act.put,xA,xB,xC];refine ee 9 ⟨some 63,_,_,_,_,none⟩ a ?_;simp only[Act.put,xA,xB,xC];refine nW 2 (λ_ c=>c.1) a ?_;refine nW 5 (λ_ c=>c.2.1) a ?_;refine nW 7 (λ_ c=>c.2.2) a ?_;refine nW 10 (λ_ c=>c.2.1) a ?_;refine dQ 11 (λK k=>?_);go_simp;go_at_call 99
     refine(Wc.text S.ar M.arom M.aux.PC F.out.aux.2.2 _ (HS.out.kept o.out.low.drew 1 (by decide)) F.out.arom (HF.out.kept o.out.low.drew)).mono ?_;rintro e w2 ⟨rfl,d⟩;have l:=hid (o.out.kept (bn (J wc).drew d));have I:=hid (vA R.out (bn (J wc).drew d));clear d;try go_wp2_with fail
     refine eP k (l.out.s5) (λ_=>?_);clear k K;clear a;have a:=l.out.s5;refine iq 12 (.agg (fy ⟨M.clock,true,M.aux.PC,dF M.arom M.aux.PC.toNat⟩).toArray) U (λw' _=>zmY 78 0 1 2 3 _ _ _ _ U (.int .i64 M.clock) (.bool true) (.int .u16 M.aux.PC) (.string (aT (dF M.arom M.aux.PC.toNat))) (.agg (fy ⟨M.clock,true,M.aux.PC,dF M.arom M.aux.PC.toNat⟩).toArray) U U U U (zuQ _ _ _ w')) a ?_;refine dQ 13 (λK k=>?_);refine sS U 70 1 0 _ U (.agg (fy ⟨M.clock,true,M.aux.PC,dF M.arom M.aux.PC.toNat⟩).toArray) U (znY ⟨M.clock,true,M.aux.PC,dF M.arom M.aux.PC.toNat⟩ _) ?_;have i:=hid (l.out.kept (stA (J w2) (.cells (fy ⟨M.clock,true,M.aux.PC,dF M.arom M.aux.PC.toNat⟩).toArray 78)));have p:=hid (vA I.out (stA (J w2) (.cells (fy ⟨M.clock,true,M.aux.PC,dF M.arom M.aux.PC.toNat⟩).toArray 78)));refine eP k (i.out.s5) (λ_=>?_);clear k K;clear a;have a:=i.out.s5;refine dQ 14 (λK k=>?_);obtain⟨i1,T,V,W,X⟩:=info_parts zja
     refine step_append_lies _ (by rfl) (.tmp 54) (.tmp 67) 70 (by rfl) (w.heap.size+1) 78 i1 _ 4 32 underlying70 T V W X U (by omega) u3 M.mdid.length (jA M.mdid) U p.out ⟨w2.heap.size,0,none⟩ 1 1 (fy ⟨M.clock,true,M.aux.PC,dF M.arom M.aux.PC.toNat⟩) U U (sT _ w2) (zmZ _) (by omega) (by unfold maxLen;have:=n.out;omega) (by have:=n.out;omega) (ax i.out.bx.z (ak _)) _ U ?_;intro g1 N W3 f x y Z;have L:=hid f;have m:=hid (i.out.grown p.out x);clear f x y Z;refine eP k (m.out.s5) (λ_=>?_);clear k K;clear a;have a:=m.out.s5;refine ee 15 ⟨some 3,_,_,_,_,none⟩ a ?_;simp only[Act.put,xA,xB,xC];refine wpAnyH_done (by kernel_rfl) ?_ _;go_simp;go_wp2;go_ret;exact⟨_,U,by show W3.ownsRow _ _ _ _ (M.mdid++M.adid).length (jA (M.mdid++M.adid));rw[HAI.out,Q trivial,zwT,aC];exact vC L.out,m.out.low⟩
theorem zwU(l:List Dd):∀ u∈jA l,u.oneCell'=true:=λu a=>by
 unfold jA at a;obtain⟨x,b,h⟩:=List.mem_flatten.1 a;obtain⟨y,_,rfl⟩:=ex.1 b;exact zmZ y u h
theorem zuR(a b:List Dd):jA (a++b)=jA a++jA b:=by simp[jA]
theorem zsG(X:Mach):X.due.length<=2:=by
 unfold Mach.due Mach.mdid Mach.adid;split <;> split <;> simp
theorem zm0{w:World}{v:Value}{n z B:Nat}{xs:List Value}{t:TypeId}{ops:Array Oper}{o:Oper}{a:Act}{K:Act->World->Prop}{aj:Exit->Act->World->Prop}{E:Prop}{L:TypeId}{M:Value}{y:Nat}(q:Nat)(p:Tryz.prog.underlying L=some (.slice t))(r:(Tryz.prog.info? t).map (λi=>(i.zero,i.size,i.bytes))=some (some M,z,y))(N:M.cells.size=z)(hz:0<z)(hy:y<=64)
 (F:o.guard=none) (s x:Operand) (ho:o.op=.call { callee:=.builtin .append,args:=#[s,x],argTypes:=#[L,L] }) (hs:a.eval s=v) (b:w.ownsRow B t z v n xs) (xv:Value) (hx:a.eval x=xv) {m:Nat} {ys:List Value} (P:iJ w xv m z ys) (h1:∀ u∈ys,u.oneCell'=true) (hb:n+m<=100000) (hB:B<=w.heap.size)
 (h:∀ v' w',w'.ownsRow B t z v' (n+m) (xs++ys)->Lw q v.ownBlock w w'->(v'.ownBlock=v.ownBlock \/ ∃ k,v'.ownBlock=some k/\w.heap.size<=k)->K (a.put o.dst v') w'):if Region.wanted o (yielded ops a.tmps)=true then Oper.wp prog o a w K aj else E:=by
 obtain⟨i0,H,R,T,V⟩:=info_parts r;by_cases hm:m=0
 ·subst hm
  obtain⟨ad,c,rfl⟩:=P.len;have W:ys=[]:=en (by rw[P.1];omega);have I:=pp p i0 H o.type b ad c;rw[Q (by simp[Region.wanted,F])];unfold Oper.wp;simp[execOp,ho,resolve,invoke,builtin,hs,hx,I,Result.andThen];exact h v w (by rw[W];simpa using b) (Lw.of (aW _ _)) (Or.inl U)
 ·obtain⟨X,Y|⟨g,o',c,e1,e2,e3,e4⟩⟩:=P
  ·exact absurd Y.1 hm
  ·refine step_append_lies _ F s x _ ho B t i0 M z y p H R T V N hz v n xs hs b ⟨g,o',none⟩ m c ys (hx.trans e1) X (λj u hj=>by rw[addr_add];exact e4 j u hj) h1 (by omega) (by unfold maxLen;omega) (ax (lF hb hy) (by decide)) hB w.heap.size U ?_
   intro g' cap w' l d Z _;have f:=(aW 0 w).grown d (aU _) (λk hk=>aU _)
   exact h _ w' l ⟨f.os,f.tape,f.output,f.size,λk hk _ hne=>d.block k hk (λe=>hne e.symm)⟩ (by
    rcases Z with e|rfl
    ·exact Or.inl e.symm
    ·exact Or.inr ⟨_,U,ak _⟩)
structure JT0 (q : Nat) (acc : List Dd) (v : Value) (w : World) : Prop where
 bx:Bx w q [v]
 own:w.ownsRow (q+1) 78 4 v acc.length (jA acc)
def JT(q:Nat)(acc:List Dd)(g:Option Nat)(w:World):Prop:=∃ v,JT0 q acc v w/\g=v.ownBlock
theorem JT.jw(q:Nat):Jw q (JT q) where
 same:=by
  rintro acc g w w' ⟨v,h,rfl⟩ a b c;exact⟨v,⟨h.bx.same a b,fF h.own c⟩,U⟩
 q:=by
  rintro acc g w ⟨v,h,rfl⟩;exact h.bx.z
 g:=by
  rintro acc g w ⟨v,h,rfl⟩ k e;exact(fZ h.own k e).2.1
structure LT (Y : World) (X : Mach) (SX : Sl) (Z : World) : Prop where
 low:Below Y.heap.size Y Z
 mb:Bx Z Y.heap.size (D X SX)
section
variable {Y Z Z' : World} {X : Mach} {SX : Sl} {q : Nat} {acc : List Dd} {v : Value}
theorem LT.kept(h:LT Y X SX Z)(hb:Below Z.heap.size Z Z'):LT Y X SX Z':=⟨bn h.low hb,h.mb.kept hb⟩
theorem LT.drew(h:LT Y X SX Z):LT Y X SX Z.drew:=⟨h.low.drew,h.mb.drew⟩
theorem LT.ss(h:LT Y X SX Z)(a:JT0 q acc v Y):Z.cell? ⟨q,0,none⟩=some v/\Bx Z Y.heap.size (D X SX):=⟨(a.bx.kept h.low).at 0 v rfl,h.mb⟩
theorem LT.own(h:LT Y X SX Z)(a:JT0 q acc v Y):Z.ownsRow (q+1) 78 4 v acc.length (jA acc):=fF a.own (λk e=>h.low.block k (fZ a.own k e).2.1)
theorem LT.qz(h:LT Y X SX Z)(a:JT0 q acc v Y):q+1<=Z.heap.size:=ap a.bx.z h.low.size
theorem LT.blk(h:LT Y X SX Z)(a:JT0 q acc v Y)(b:Lw Z.heap.size v.ownBlock Z Z'):Z'.heap[q]?=Y.heap[q]?:=by
 have c:=a.bx.z;have:=h.low.size;exact(b.block q (by omega) (by omega) (λe=>by have:=(fZ a.own q e).1;omega)).trans (h.low.block q c)
theorem LT.qs(h:LT Y X SX Z)(a:JT0 q acc v Y)(b:Lw Z.heap.size v.ownBlock Z Z'):Z'.cell? ⟨q,0,none⟩=some v/\q<Z'.heap.size/\Z'.frozen? ⟨q,0,none⟩=false:=by
 have hb:=a.bx.same (ax h.low.size b.size) (h.blk a b);exact⟨hb.at 0 v U,hb.z,hb.f 0⟩
theorem LT.fin{v':Value}(h:LT Y X SX Z)(b:JT0 q acc v Y)(a:Lw Z.heap.size v.ownBlock Z Z')(c:Z'.ownsRow (q+1) 78 4 v' (acc.length+X.due.length) (jA acc++jA X.due))(f:v'.ownBlock=v.ownBlock \/ ∃ k,v'.ownBlock=some k/\Z.heap.size<=k):JT q (acc++X.due) v'.ownBlock (Z'.setCell ⟨q,0,none⟩ v')/\(v'.ownBlock=v.ownBlock \/ ∃ k,v'.ownBlock=some k/\Y.heap.size<=k)/\Lw q v.ownBlock Y (Z'.setCell ⟨q,0,none⟩ v'):=by
 have hb:=(b.bx.same (ax h.low.size a.size) (h.blk b a)).set 0 v' (by simp);have g:=h.low.size;refine⟨⟨v',⟨hb,?_⟩,U⟩,?_,?_⟩
 ·rw[aC,zuR]
  exact fF c (λk e=>bL _ _ _ _ (by have:=(fZ c k e).1;simp;omega))
 ·rcases f with e|⟨k,e,d⟩
  ·exact Or.inl e
  ·exact Or.inr ⟨k,e,by omega⟩
 ·have h1:Below q Z' (Z'.setCell ⟨q,0,none⟩ v'):=eQ (p:=⟨q,0,none⟩) (aW q Z') (ak q) v'
  exact⟨h1.os.trans (a.os.trans h.low.os),h1.tape.trans (a.tape.trans h.low.tape),h1.output.trans (a.output.trans h.low.output),ax (ax g a.size) h1.size,λk d h2 h3=>((bL _ _ _ _ (by simpa using h2)).trans (a.block k (by omega) (by omega) h3)).trans (h.low.block k d)⟩
end
theorem Wc.lookT(q:Nat)(w0:World)(H:AF w0):∀ acc g X SX Y,JT q acc g Y->Below w0.heap.size w0 Y->bM Y SX X->X.fit->acc.length<=1000->Calls prog 51 #[.agg (D X SX).toArray,pt q 0] Y λe w'=>e=.returned (.bool false) /\ ∃ g',JT q (acc++X.due) g' w'/\(g'=g \/ ∃ k,g'=some k/\Y.heap.size<=k)/\Lw q g Y w':=by
 rintro acc g X SX Y ⟨v,I,rfl⟩ i L M j;have z:Hid (LT Y X SX (Y.alloc (.cells (D X SX).toArray 41))):=hid ⟨stA (J Y) _,Bx.new Y (D X SX) 41 (b:=Y.heap.size) U⟩;have n:=hid I;have B:=hid L;have E:=hid M;have P:=hid (H.kept i);have F:=hid j;clear I i L M H j;go_enter func51,ntmps51;go_wp2;refine mI (S:=λw'=>w'.cell? ⟨q,0,none⟩=some v/\Bx w' Y.heap.size (D X SX)) (st:=3) (by kernel_rfl) ?_;have r:=z.out.drew.ss n.out;refine j1 [] 0 (λ_ o=>o.1) r ?_;refine nV [2] 1 (.agg (D X SX).toArray) U (λw' o=>kt 41 _ U Y.heap.size 0 U (D X SX) _ o.2.c underlying41 U bV) r ?_;refine fP 2 (λK l=>?_);go_simp;go_at_call 52
 refine(Wc.due X SX _ (B.out.kept z.out.low.drew) E.out (P.out.kept z.out.low.drew)).mono ?_;rintro e w2 ⟨v2,rfl,f,s⟩;have a:=hid (z.out.drew.kept s);have t:=hid f;clear f s;try go_wp2_with fail
 refine gL l (λ_=>a.out.ss n.out) ?_;clear l K;clear r;have r:=a.out.ss n.out;refine fP 3 (λK l=>?_);refine zm0 w2.heap.size underlying70 zja U (by omega) (by omega) (by rfl) _ _ (by rfl) (by rfl) (a.out.own n.out) _ (by rfl) (qA t.out) (zwU _) (by have:=F.out;have:=zsG X;omega) (a.out.qz n.out) ?_;intro v3 W d p u;obtain⟨a3,c3,e3⟩:=vj d;subst e3;obtain⟨q0,qz,R⟩:=a.out.qs n.out p;have w:=hid d;have x:=hid p;have y:=hid u;clear d p u;refine gL l (λh=>by simp at h) ?_;clear l K;clear r;refine fP 4 (λK l=>?_);go_simp;refine l.out _ _ (λh=>by simp at h) ?_;clear l K;refine lL (by kernel_rfl) ?_ _;have m:=a.out.fin n.out x.out w.out y.out;refine Pl.cutE (λV=>JT q (acc++X.due) (Value.slice a3 (acc.length+X.due.length) c3).ownBlock V/\((Value.slice a3 (acc.length+X.due.length) c3).ownBlock=v.ownBlock \/ ∃ k,(Value.slice a3 (acc.length+X.due.length) c3).ownBlock=some k/\Y.heap.size<=k)/\Lw q v.ownBlock Y V) m ?_
 intro V N;have T:=hid N;clear N m q0 qz R a x w y t;go_wp2;go_ret;exact⟨U,_,T.out⟩
def vS(M:Mach)(l:List Inp)(n:Int)(X:Mach)(a:Int)(acc:List Dd):Prop :=
 (a≠0/\X=aE/\acc=[]/\(a=gQ M l n \/ (gQ M l n=0/\19000<M.b.f))) \/
 (a=0/\gQ M l n=0/\M.fit/\InR M l/\X=M.aft l n.toNat /\ ∃ c:List Nat,Way M l n.toNat c n.toNat/\acc=(c.map (λi=>(M.aft l i).due)).flatten)
inductive TPost (M : Mach) (l : List Inp) (n : Int) (w : World) (e : Ending) (w' : World) : Prop
 | mk (vl:Value) (X:Mach) (SX:Sl) (er:Int) (acc:List Dd) (h:e=.returned (.tuple #[vl,.agg (D X SX).toArray,.int .i64 er])) (h2:vS M l n X er acc) (h3:w'.ownsRow w.heap.size 78 4 vl acc.length (jA acc)) (h4:bM w' SX X) (h5:Below w.heap.size w w')
structure TB (w w1 : World) (vl : Value) (acc : List Dd) (X : Mach) (SX : Sl) (Y : World) : Prop where
 low:Below w.heap.size w Y
 rb:Bx Y (w.heap.size+1) (D aE aM)
 lg:Bx Y (w.heap.size+2) [vl]
 ob:Bx Y w1.heap.size (D X SX)
 own:Y.ownsRow (w.heap.size+3) 78 4 vl acc.length (jA acc)
 sl:bM Y SX X
 nw:dY (w.heap.size+3) SX/\w.heap.size+3<=w1.heap.size
structure TV (w : World) (L : List Value) (vl : Value) (acc : List Dd) (X : Mach) (SX : Sl) (Y : World) : Prop where
 low:Below w.heap.size w Y
 rb:Bx Y (w.heap.size+1) L
 own:Y.ownsRow w.heap.size 78 4 vl acc.length (jA acc)
 sl:bM Y SX X
section
variable {w w1 Y : World} {vl : Value} {acc : List Dd} {X : Mach} {SX : Sl}
theorem TB.ss(h:TB w w1 vl acc X SX Y):Y.cell? ⟨w.heap.size+2,0,none⟩=some vl/\Bx Y w1.heap.size (D X SX):=⟨h.lg.at 0 vl rfl,h.ob⟩
theorem R1.th(w1:World):(w1.alloc (.cells (D aE aM).toArray 41)).there w1.heap.size 0 75:=(Bx.new w1 (D aE aM) 41 (b:=w1.heap.size) rfl).there 0 75 (by rw[cy];omega)
theorem TB.mk'{W:World}(h:Below w.heap.size w W)(i:Bx W (w.heap.size+1) (D aE aM))(c:JT0 (w.heap.size+2) acc vl w1)(a:Lw (w.heap.size+2) none W w1)(j:bM w1 SX X)(g:dY W.heap.size SX)(l:W.heap.size=w.heap.size+3):TB w w1 vl acc X SX ((w1.alloc (.cells (D aE aM).toArray 41)).setCells w1.heap.size 0 (D X SX)):=by
 have h1:=(Bx.new w1 (D aE aM) 41 (b:=w1.heap.size) U).puts 0 (D X SX) (by rw[cy,cy];omega);rw[jJ _ _ (by rw[cy,cy])] at h1;have hb:Below w1.heap.size w1 ((w1.alloc (.cells (D aE aM).toArray 41)).setCells w1.heap.size 0 (D X SX)):=j4 (stA (J w1) _) (ak _) _ _;have m:=a.size;rw[l] at g;have d:Below w.heap.size w w1:=h.trans (a.below (by omega) (by omega) (λk e=>by cases e));have f:Bx w1 (w.heap.size+1) (D aE aM):=i.same a.size (a.block _ (by omega) (by omega) (by simp));exact⟨bn d hb,f.kept hb,c.bx.kept hb,h1,fF c.own (λk e=>hb.block k (fZ c.own k e).2.1),j.kept hb,g,by omega⟩
theorem TB.put{a:Mach}{S':Sl}{acc':List Dd}{v':Value}(h:TB w w1 vl acc X SX Y)(c:bM Y S' a)(d:dY (w.heap.size+3) S')(b:Y.ownsRow (w.heap.size+3) 78 4 v' acc'.length (jA acc')):TV w (D a S') v' acc' a S' (Y.setCells (w.heap.size+1) 0 (D a S')):=by
 have h1:=h.rb.puts 0 (D a S') (by rw[cy,cy];omega);rw[jJ _ _ (by rw[cy,cy])] at h1;refine⟨j4 h.low (by omega) _ _,h1,?_,c.off d (by omega) _ _⟩;have h2:=fF (w':=Y.setCells (w.heap.size+1) 0 (D a S')) b (λk e=>fO (by have:=(fZ b k e).1;omega) _ _ _);exact vC (vC (vC h2))
end
theorem TB.drew{w w1 Y:World}{vl:Value}{acc:List Dd}{X:Mach}{SX:Sl}(h:TB w w1 vl acc X SX Y):TB w w1 vl acc X SX Y.drew:=⟨h.low.drew,h.rb.drew,h.lg.drew,h.ob.drew,h.own,h.sl.kept (J Y).drew,h.nw⟩
theorem TB.put'{w w1 Y:World}{vl:Value}{acc:List Dd}{X:Mach}{SX:Sl}(h:TB w w1 vl acc X SX Y):TV w (D X SX) vl acc X SX (Y.drew.setCells (w.heap.size+1) 0 (D X SX)):=h.drew.put h.drew.sl h.nw.1 h.drew.own
theorem Wc.tend{M X:Mach}{l:List Inp}{n:Int}{t:Bool}{acc:List Dd}{a:List Nat}{j:Nat}(h1:gQ M l n=0)(h2:M.fit)(h3:InR M l)(h4:Way M l n.toNat a j)(b:X=M.aft l j)(c:(t=false/\j=n.toNat/\acc=(a.map (λi=>(M.aft l i).due)).flatten) \/ (t=true/\j<n.toNat/\false=true/\acc=(a.map (λi=>(M.aft l i).due)).flatten++X.due)):(0:Int)=0/\gQ M l n=0/\M.fit/\InR M l/\X=M.aft l n.toNat /\ ∃ a:List Nat,Way M l n.toNat a n.toNat/\acc=(a.map (λi=>(M.aft l i).due)).flatten:=by
 rcases c with⟨_,rfl,h⟩|⟨_,_,h,_⟩
 ·exact⟨U,h1,h2,h3,b,a,h4,h⟩
 ·cases h
theorem Wc.trace(M:Mach)(S:Sl)(v:Value)(l:List Inp)(n:Int)(w:World)(hF:AF w)(hs:bM w S M)(hz:∀ j,j<5->(M.byt j).length<=9223372036854775807)(m:M.ok)(o:bE w.heap.size w v l)(p:∀ x∈l,0<=x.d/\x.d<=255)(hn:-9223372036854775808<=n/\n<=9223372036854775807):Calls prog 24 #[.agg (D M S).toArray,v,.int .i64 n] w (TPost M l n w):=by
 have hW:Below w.heap.size w (((w.alloc (.cells (D M S).toArray 41)).alloc (.cells (D aE aM).toArray 41)).alloc (.cells #[.slice none 0 0] 70)):=stA (stA (stA (J w) _) _) _;have q:=hid (((Bx.new w (D M S) 41 (b:=w.heap.size) U).over (.cells (D aE aM).toArray 41)).over (.cells #[.slice none 0 0] 70));have r:=hid ((Bx.new (w.alloc (.cells (D M S).toArray 41)) (D aE aM) 41 (b:=w.heap.size+1) (by simp)).over (.cells #[.slice none 0 0] 70));have s:=Bx.new ((w.alloc (.cells (D M S).toArray 41)).alloc (.cells (D aE aM).toArray 41)) [.slice none 0 0] 70 (b:=w.heap.size+2) (by simp);have u:=Wc.follow M S v l n 51 (pt (w.heap.size+2) 0) (w.heap.size+2) (JT (w.heap.size+2)) (λ_=>false) Mach.due w _ (λ_ _=>U) (Wc.lookT (w.heap.size+2) w hF) zsG (JT.jw _) ⟨by omega,by simp⟩ ⟨_,⟨s,⟨U,Or.inl ⟨U,U⟩⟩⟩,U⟩ hW hs hz m hF.shapes o p hn;have y:=hid u;have HW:=hid hW;clear u hW s hF hs hz m o p;go_enter func24,ntmps24
 go_upto_region 3 with(first
  | (refine wpList_load_mid U 41 _ U w.heap.size 0 U (D M S) _ q.out.c underlying41 U bV ?_)
  | (go_at_call 50;refine y.out.mono ?_;rintro e w1 ⟨X,SX,t,er,acc,g,rfl,z,⟨vl,hJ,rfl⟩,B,E,F⟩
     have HE:=hid z;have HJ:=hid hJ;have i:=hid B;have H:=hid E;have I:=hid F;clear z hJ B E F)
  | (refine wpList_store_mid U 41 _ _ U w1.heap.size 0 (D X SX).toArray U U (R1.th w1) bV (fG _ _ (jL i.out)) ?_
     refine Pl.cutL (TB w w1 vl acc X SX) (TB.mk' HW.out r.out HJ.out H.out i.out I.out (by simp)) ?_;intro Y1 L;have a:=hid L;clear L))
 clear q r y HW i I H HJ;have z:=HE.out;unfold oW at z;rcases z with⟨he,Y,ht,hc⟩|⟨he,N,P,hR,js,j,R,Y,hbs,T⟩
 ·have HC:=hid hc
  have HNE:=hid he;clear hc HE ht Y
  go_wp2_with (refine wpList_store_mid U 41 _ _ U (w.heap.size+1) 0 (D aE aM).toArray U U (a.out.rb.there 0 75 (by rw[cy];omega)) bV (fG _ _ pT) ?_
               refine Pl.cutL (TV w (D aE aM) (.slice none 0 0) [] aE aM) (a.out.put (tj _) (vz _) ⟨U,Or.inl ⟨U,U⟩⟩) ?_;intro V W;have f:=hid W;clear W)
  refine ao (v:=.tuple #[.slice none 0 0,.agg (D aE aM).toArray,.int .i64 er]) ?_ U ⟨.slice none 0 0,aE,aM,er,[],U,Or.inl ⟨HNE.out,U,U,HC.out⟩,f.out.own,f.out.sl,f.out.low⟩;have l1:=run_loadVar_mid V (w.heap.size+1) 0 41 _ _ f.out.rb.c underlying41 U bV;simp only[results,results24];simp;show (Result.andThen (Sem.run prog (loadVar 41 ⟨w.heap.size+1,0,none⟩) V) _)=_;rw[l1];rfl
 ·have HFE:=hid N
  have HFT:=hid P;have HR:=hid hR;have HWY:=hid R;have HX:=hid Y;have HOR:=hid T;subst he;obtain⟨a1,c1,e1⟩:=vj a.out.own;subst e1;clear N P hR R Y T hbs HE;go_wp2;refine mI (S:=λw'=>w'.cell? ⟨w.heap.size+2,0,none⟩=some (.slice a1 acc.length c1)/\Bx w' w1.heap.size (D X SX)) (st:=3) (by kernel_rfl) ?_;have Z:=a.out.drew.ss;refine j1 [] 0 (λ_ k=>k.1) Z ?_;refine nV [] 1 (.agg (D X SX).toArray) U (λw' k=>kt 41 _ U w1.heap.size 0 U (D X SX) _ k.2.c underlying41 U bV) Z ?_;refine bI 2 (λ_=>Z) ?_;refine fP 3 (λK hK=>?_);refine lW U 41 _ _ U (w.heap.size+1) 0 (D X SX).toArray U U (a.out.drew.rb.there 0 75 (by rw[cy];omega)) bV (fG _ _ (jL a.out.sl)) ?_;refine hK.out _ _ (λh=>by simp at h) ?_;clear hK K;clear Z;refine bI 4 (λh=>by simp at h) ?_;refine lL (by kernel_rfl) ?_ _;refine Pl.cutE (TV w (D X SX) (.slice a1 acc.length c1) acc X SX) (a.out.put' ) ?_;intro V W;have f:=hid W;clear W a;go_wp2
  refine ao (v:=.tuple #[.slice a1 acc.length c1,.agg (D X SX).toArray,.int .i64 0]) ?_ U ⟨.slice a1 acc.length c1,X,SX,0,acc,U,Or.inr (Wc.tend HFE.out HFT.out HR.out HWY.out HX.out HOR.out),f.out.own,f.out.sl,f.out.low⟩;have l1:=run_loadVar_mid V (w.heap.size+1) 0 41 _ _ f.out.rb.c underlying41 U bV;simp only[results,results24];simp;show (Result.andThen (Sem.run prog (loadVar 41 ⟨w.heap.size+1,0,none⟩) V) _)=_;rw[l1];rfl
def bk(pc:Int)(X:Mach):Bool:=decide (X.mready<=X.clock) && decide (X.main.PC=pc) && !X.main.Waits
def JB(q:Nat)(pc:Int)(acc:List Dd)(g:Option Nat)(w:World):Prop:=acc=[]/\g=none/\Bx w q [.int .u16 pc]
theorem JB.jw(q:Nat)(pc:Int):Jw q (JB q pc) where
 same:=by
  rintro acc g w w' ⟨rfl,rfl,h⟩ a b c;exact⟨U,U,h.same a b⟩
 q:=by
  rintro acc g w ⟨rfl,rfl,h⟩;exact h.z
 g:=by
  rintro acc g w ⟨rfl,rfl,h⟩ k e;cases e
theorem Wc.lookB(q:Nat)(pc:Int)(w0:World):∀ acc g X SX Y,JB q pc acc g Y->Below w0.heap.size w0 Y->bM Y SX X->X.fit->acc.length<=1000->Calls prog 55 #[.agg (D X SX).toArray,pt q 0] Y λe w'=>e=.returned (.bool (bk pc X)) /\ ∃ g',JB q pc (acc++[]) g' w'/\(g'=g \/ ∃ k,g'=some k/\Y.heap.size<=k)/\Lw q g Y w':=by
 rintro acc g X SX Y ⟨rfl,rfl,i⟩ c n o d;have f:Below Y.heap.size Y (Y.alloc (.cells (D X SX).toArray 41)):=stA (J Y) _;have hB:=Bx.new Y (D X SX) 41 (b:=Y.heap.size) U;have p:=hB.at 72 (.int .i64 X.clock) U;have r:=hB.at 73 (.int .i64 X.mready) U;have s:=hB.at 8 (.int .u16 X.main.PC) U;have j:=hB.at 14 (.bool X.main.Waits) U;have t:=hB.z;have u:=(i.kept f).at 0 (.int .u16 pc) U;have v:=(i.kept f).z;have l:Hid (∃ g',JB q pc ([]++[]) g' (Y.alloc (.cells (D X SX).toArray 41))/\(g'=(none:Option Nat) \/ ∃ k,g'=some k/\Y.heap.size<=k)/\Lw q none Y (Y.alloc (.cells (D X SX).toArray 41))):=hid ⟨none,⟨U,U,i.kept f⟩,Or.inl U,Lw.of f⟩;have a:Hid (bk pc X=(decide (X.mready<=X.clock) && decide (X.main.PC=pc) && !X.main.Waits)):=hid U;obtain⟨wt,h⟩:∃ b,b=X.main.Waits:=⟨_,U⟩
 rw[<- h] at j a;clear h hB i f c n o d;by_cases h1:X.mready<=X.clock
 ·have d1:decide (X.mready<=X.clock)=true:=aL h1
  by_cases h2:X.main.PC=pc
  ·have d2:decide (X.main.PC=pc)=true:=aL h2
   rw[d1,d2] at a;have m:(X.main.PC == pc)=true:=by rw[h2];simp
   clear h1 h2;cases wt;all_goals
    go_enter func55,ntmps55;go_wp2;go_ret;exact⟨by rw[a.out];rfl,l.out⟩
  ·have d2:decide (X.main.PC=pc)=false:=aF h2
   rw[d1,d2] at a;have m:(X.main.PC == pc)=false:=by simpa using h2
   clear h1 h2;go_enter func55,ntmps55;go_wp2;go_ret;exact⟨by rw[a.out];rfl,l.out⟩
 ·have d1:decide (X.mready<=X.clock)=false:=aF h1
  rw[d1] at a;clear h1;go_enter func55,ntmps55;go_wp2;go_ret;exact⟨by rw[a.out];rfl,l.out⟩
inductive BPost (M : Mach) (l : List Inp) (n pc : Int) (w : World) (e : Ending) (w' : World) : Prop
 | mk (X:Mach) (SX:Sl) (t:Bool) (er:Int) (acc:List Dd) (h:e=.returned (.tuple #[.agg (D X SX).toArray,.bool t,.int .i64 er])) (h2:oW M l n (bk pc) (λ_=>[]) X t er acc) (h4:bM w' SX X) (h5:Below w.heap.size w w')
theorem Wc.break(M:Mach)(S:Sl)(v:Value)(l:List Inp)(n pc:Int)(w:World)(f:aZ w)(N:bM w S M)(P:∀ j,j<5->(M.byt j).length<=9223372036854775807)(h:M.ok)(i:bE w.heap.size w v l)(m:∀ x∈l,0<=x.d/\x.d<=255)(Z:-9223372036854775808<=n/\n<=9223372036854775807):Calls prog 29 #[.agg (D M S).toArray,v,.int .i64 n,.int .u16 pc] w (BPost M l n pc w):=by
 have B:Below w.heap.size w (((w.alloc (.cells (D M S).toArray 41)).alloc (.cells #[.int .u16 pc] 22)).alloc (.cells (D aE aM).toArray 41)):=stA (stA (stA (J w) _) _) _;have E:=hid (((Bx.new w (D M S) 41 (b:=w.heap.size) U).over (.cells #[.int .u16 pc] 22)).over (.cells (D aE aM).toArray 41));have o:=(Bx.new (w.alloc (.cells (D M S).toArray 41)) [.int .u16 pc] 22 (b:=w.heap.size+1) (by simp)).over (.cells (D aE aM).toArray 41);have p:=hid (Bx.new ((w.alloc (.cells (D M S).toArray 41)).alloc (.cells #[.int .u16 pc] 22)) (D aE aM) 41 (b:=w.heap.size+2) (by simp));have q:=Wc.follow M S v l n 55 (pt (w.heap.size+1) 0) (w.heap.size+1) (JB (w.heap.size+1) pc) (bk pc) (λ_=>[]) w _ (λ_ _=>U) (Wc.lookB (w.heap.size+1) pc w) (λ_=>aU _) (JB.jw _ _) ⟨by omega,by simp⟩ ⟨U,U,o⟩ B N P h f i m Z;have F:=hid q;have R:=hid B;clear q B o f N P h i m;go_enter func29,ntmps29;go_wp2_with (first
  | (refine wpList_load_mid U 41 _ U w.heap.size 0 U (D M S) _ E.out.c underlying41 U bV ?_)
  | (go_at_call 50;refine F.out.mono ?_;rintro e w1 ⟨X,SX,t,T,acc,g,rfl,W,hJ,r,a,s⟩
     have HE:=hid W;have u:=hid r;have H:Hid (Below w.heap.size w w1):=hid (R.out.trans (a.below R.out.size (by omega) (λk e=>by cases e)));have y:=hid (p.out.same a.size (a.block _ p.out.z (by omega) (by simp)));have I:Hid (dY (w.heap.size+3) SX):=hid (s.mono (by simp));clear W r a s hJ)
  | (refine wpList_store_mid U 41 _ _ U (w.heap.size+2) 0 (D X SX).toArray U U (y.out.there 0 75 (by rw[cy];omega)) bV (fG _ _ (jL u.out)) ?_
     refine Pl.cutL (λV=>Below w.heap.size w V/\Bx V (w.heap.size+2) (D X SX)/\bM V SX X) ⟨j4 H.out (by omega) _ _,(by have h1:=y.out.puts 0 (D X SX) (by rw[cy,cy];omega);rw[jJ _ _ (by rw[cy,cy])] at h1;exact h1),u.out.off I.out (by omega) _ _⟩ ?_;intro V Y;have L:=hid Y;clear Y))
 refine ao (v:=.tuple #[.agg (D X SX).toArray,.bool t,.int .i64 T]) ?_ U ⟨X,SX,t,T,acc,U,HE.out,L.out.2.2,L.out.1⟩;have l1:=run_loadVar_mid V (w.heap.size+2) 0 41 _ _ L.out.2.1.c underlying41 U bV;simp only[results,results29];simp;show (Result.andThen (Sem.run prog (loadVar 41 ⟨w.heap.size+2,0,none⟩) V) _)=_;rw[l1];rfl
def ml:List (Mach × Sl)->List Value
 | []=>[]
 | p::l=>D p.1 p.2++ml l
theorem zsD:∀(l k:List (Mach × Sl)),ml (l++k)=ml l++ml k
 | [],k=>rfl
 | x::l,k=>by rw[cQ,ml,zsD l k,ml,bp]
theorem zsE:∀(l:List (Mach × Sl)) (i:Nat) (x:Mach × Sl),l[i]?=some x->∀(j:Nat) (v:Value),(D x.1 x.2)[j]?=some v->(ml l)[i*75+j]?=some v
 | [],i,x,h=>by simp at h
 | y::l,0,x,h=>λj v a=>by
  simp only[aY,aP] at h;subst h;have b:j<(D y.1 y.2).length:=(aA.1 a).1;rw[fl,aN,ml,aR b];exact a
 | y::l,i+1,x,h=>λj v a=>by
  rw[bi] at h;have:=zsE l i x h j v a;rw[ml,aO (by rw[cy];omega),cy,show (i+1)*75+j-75=i*75+j by omega];exact this
theorem zsF(M:Mach)(S:Sl)(w:World):(Instr.buildSlice 73 1 #[(0,.agg (D M S).toArray)]).run prog w=.ok (.slice (some ⟨w.heap.size,0,none⟩) 1 1) (w.alloc (.cells (D M S).toArray 41)):=by kernel_rfl
section
variable {F : Gx} {N ob : Nat} {vl vs : Value} {w w0 W W1 W2 W3 : World} {s : Bst} {ln : List Lin} {sm : List UInt8} {k k' : Cs} {ps : List (Mach × Sl)} {vps : Value} {L : List Value}
theorem GC.grew{t:TypeId}{z m:Nat}{o:Value}{xs:List Value}(d:GK F N ob)(h:GC F N ob vl vs W s ln sm)(c:W.ownsRow N t z o m xs)(g:t≠104/\t≠47/\t≠68/\t≠5)(a:W.grownBy W3 o.ownBlock):GC F N ob vl vs W3 s ln sm:=by
 obtain⟨r,u,⟨v,i⟩,b,p,q⟩:=h;have l:ob<W.heap.size:=(ay.1 b).1;have hB:=d.B;have hb:Below F.B W W3:=(aW F.B W).grown a i.big (λj e=>ax hB (fZ c j e).1);refine⟨r,u.of_blocks (hb.block _ d.fx.1) (hb.block _ d.fx.2.1) (hb.block _ d.fx.2.2),⟨v,i.of_same a.size (λk n w=>?_) (λk x=>?_)⟩,(a.block ob l (λe=>jN c b g.2.1 e.symm)).trans b,fF p (λj e=>?_),fF q (λj e=>?_)⟩
 ·have y:=d.all k w
  exact a.block k n (λe=>by have:=(fZ c k e.symm).1;omega)
 ·obtain⟨cs,fr,e⟩:=i.wty k x
  exact a.block k (ay.1 e).1 (λf=>jN c e g.1 f.symm)
 ·obtain⟨_,h2,cs,h3⟩:=fZ p j e
  exact a.block j h2 (λf=>jN c h3 g.2.2.1 f.symm)
 ·obtain⟨_,h2,cs,h3⟩:=fZ q j e
  exact a.block j h2 (λf=>jN c h3 g.2.2.2 f.symm)
structure Wl (F : Gx) (N ob : Nat) (w : World) (L : List Value) (k : Cs) (ps : List (Mach × Sl)) (vps : Value) (W : World) : Prop where
 low:Below w.heap.size w W
 c:∃ vl vs,GC F N ob vl vs W k.s k.ln k.sm
 own:W.ownsRow N 41 75 vps ps.length (ml ps)
 cp:∀ p∈ps,bM W p.2 p.1
 kp:∀ p∈ps,∀ j,j<5->∀ kb,(p.2.get j).ownBlock=some kb->N<=kb/\(∃ cs,W.heap[kb]?=some (.cells cs 5 (0,0))) /\ ∀ vs,W.cell? ⟨ob,1,none⟩=some vs->vs.ownBlock≠some kb
 rb:Bx W (w.heap.size+1) L
 z:w.heap.size+2<=F.B
 ft:∀ p∈ps,p.1.fit
theorem Wl.kept(h:Wl F N ob w L k ps vps W)(hb:Below W.heap.size W W1):Wl F N ob w L k ps vps W1:=by
 obtain⟨vl,vs,hc⟩:=h.c;refine⟨bn h.low hb,⟨vl,vs,hc.kept hb⟩,fF h.own (λj e=>hb.block j (fZ h.own j e).2.1),λp hp=>(h.cp p hp).kept hb,λp hp j b kb e=>?_,h.rb.kept hb,h.z,h.ft⟩;obtain⟨g1,⟨cs,a⟩,g3⟩:=h.kp p hp j b kb e;exact⟨g1,⟨cs,(hb.block kb (ay.1 a).1).trans a⟩,λu d=>g3 u (by rw[<- d];exact(hb.cell (p:=⟨ob,1,none⟩) hc.lt).symm)⟩
theorem Wl.clock{vl' vs':Value}(t:GK F N ob)(h:Wl F N ob w L k ps vps W)(f:GV F N ob vl' vs' W k'.s k'.ln k'.sm W1):Wl F N ob w L k' ps vps W1:=by
 obtain⟨vl,vs,hc⟩:=h.c;have g:=Lib.cell_of_heap hc.ob 0;have l:=Lib.cell_of_heap hc.ob 1;have hB:=t.B;have r:∀ kb,vps.ownBlock=some kb->Kpt N ob W kb:=λkb e=>by
  obtain⟨g1,n,cs,g3⟩:=fZ h.own kb e;refine⟨g1,⟨cs,_,_,g3,by decide,by decide,by decide⟩,λu d=>?_,λu d=>?_⟩
  ·rw[g] at d;cases d;exact jN hc.ln g3 (by decide)
  ·rw[l] at d;cases d;exact jN hc.sm g3 (by decide)
 have o:∀ p∈ps,∀ j,j<5->∀ kb,(p.2.get j).ownBlock=some kb->Kpt N ob W kb:=λp hp j i kb e=>by
  obtain⟨g1,⟨cs,n⟩,g3⟩:=h.kp p hp j i kb e;refine⟨g1,⟨cs,_,_,n,by decide,by decide,by decide⟩,λu d=>?_,g3⟩;rw[g] at d;cases d;exact jN hc.ln n (by decide)
 refine⟨h.low.trans (f.b.mono (by have:=h.z;omega)),⟨vl',vs',f.c⟩,fF h.own (λj e=>(f.q j (r j e)).1),λp hp=>(h.cp p hp).same f.b.size (λj i a m c e x=>(f.q _ (o p hp j i a.block (by rw[e];rfl))).1),λp hp j i kb e=>?_,h.rb.same f.b.size (f.b.block _ (by have:=h.z;omega)),h.z,h.ft⟩;obtain⟨g1,⟨cs,n⟩,g3⟩:=h.kp p hp j i kb e;obtain⟨q0,q1,v⟩:=f.q kb (o p hp j i kb e);exact⟨g1,⟨cs,q0.trans n⟩,λu d=>by rw[Lib.cell_of_heap f.c.ob 1] at d;cases d;exact v⟩
theorem Wl.saw{X:Mach}{S1:Sl}{g:Value}(x:GK F N ob)(h:Wl F N ob w L k ps vps W)(hb:Below W.heap.size W W1)(H:OwnS (W.heap.size+2) S1 X W1)(Y:N<=W.heap.size)(y:X.fit)
 (i:(W1.alloc (.cells (D X S1).toArray 41)).grownBy W3 vps.ownBlock) (I:W3.ownsRow N 41 75 g (ps.length+1) (ml ps++D X S1)):Wl F N ob w L k (ps++[(X,S1)]) g W3:=by
 have l:Below W.heap.size W (W1.alloc (.cells (D X S1).toArray 41)):=bn hb (stA (J W1) _);have h2:=h.kept l;have d:=H.kept (stA (J W1) (.cells (D X S1).toArray 41));obtain⟨M,r,n⟩:=h.c;obtain⟨vl,vs,hc⟩:=h2.c;have P:=l.size;have b:∀ u,W3.cell? ⟨ob,1,none⟩=some u->u=vs/\u=r:=λu q=>by
  have e1:=Lib.cell_of_heap ((i.block ob hc.lt (λe=>jN h2.own hc.ob (by decide) e.symm)).trans hc.ob) 1;rw[e1] at q;have e2:=l.cell (p:=⟨ob,1,none⟩) n.lt;rw[Lib.cell_of_heap n.ob 1,Lib.cell_of_heap hc.ob 1] at e2;have e3:vs=u:=by cases q;rfl
  have e4:vs=r:=by cases e2;rfl
  exact⟨e3.symm,by rw[<- e3,e4]⟩
 have f:∀ kb:Nat,(∃ cs:Array Value,(W1.alloc (.cells (D X S1).toArray 41)).heap[kb]?=some (.cells cs 5 (0,0)))->W3.heap[kb]?=(W1.alloc (.cells (D X S1).toArray 41)).heap[kb]?:=λkb ⟨cs,e⟩=>i.block kb (ay.1 e).1 (λv=>jN h2.own e (by decide) v.symm)
 have R:N<=w.heap.size+2 \/ w.heap.size+2<=N:=by omega
 have s:Below w.heap.size w W3:=h2.low.trans ((aW w.heap.size _).grown i h2.low.size (λj e=>by have:=(fZ h2.own j e).1;have:=x.B;have:=h.z;omega));have E:ml (ps++[(X,S1)])=ml ps++D X S1:=by rw[zsD];simp[ml]
 refine⟨s,⟨vl,vs,hc.grew x h2.own ⟨by decide,by decide,by decide,by decide⟩ i⟩,by rw[aC,E];exact I,λp hp=>?_,λp hp j o kb e=>?_,h2.rb.same i.size (i.block _ h2.rb.z (λe=>by have:=(fZ h2.own _ e.symm).1;have:=x.B;have:=h.z;omega)),h.z,λp hp=>(bS.1 hp).elim (h.ft p) (λe=>by simp only[aV,bJ,dG] at e;subst e;exact y)⟩
 ·rcases bS.1 hp with hp|hp
  ·exact(h2.cp p hp).same i.size (λj o a m c e T=>f _ (h2.kp p hp j o a.block (by rw[e];rfl)).2.1)
  ·simp only[aV,bJ,dG] at hp
   subst hp;exact d.slAt.same i.size (λj o a m c e T=>f _ ((d.own j o).ty a.block (by rw[e];rfl)))
 ·rcases bS.1 hp with hp|hp
  ·obtain⟨g1,⟨cs,t⟩,g3⟩:=h2.kp p hp j o kb e
   exact⟨g1,⟨cs,(f kb ⟨cs,t⟩).trans t⟩,λu q=>by rw[(b u q).1];exact g3 vs (Lib.cell_of_heap hc.ob 1)⟩
  ·simp only[aV,bJ,dG] at hp
   subst hp;obtain⟨cs,t⟩:=(d.own j o).ty kb e;have V:=(d.own j o).lt kb e;refine⟨by omega,⟨cs,(f kb ⟨cs,t⟩).trans t⟩,λu q v=>?_⟩;rw[(b u q).2] at v;have:=(fZ n.sm kb v).2.1;omega
end
def f9:List UInt8:=[0,6,0,0,0,0,121,31,216,0]
def rR:C.Cpu:=⟨[0,0,0,0,0,0,0,0],6,false,false,false,false,false,false⟩
def oX:C.Cpu:=⟨[0,65535,0,0,0,0,0,0],8,false,true,false,false,false,false⟩
def vT:C.Cpu:=⟨[0,65535,0,0,0,0,0,0],10,false,true,false,false,false,true⟩
section
variable (main aux : C.Cpu) (arom ram own video : List UInt8) (p0 p1 : Pd) (t : TM) (s : Sd) (b : Bem) (fr tt : Int) (granted held : Bool) (m0 m1 : Int) (rung : Bool) (clock mready aready : Int) (l : List Wt)
theorem zuS:C.order bD rR ⟨⟨main,aux,f9,arom,ram,own,video,p0,p1,t,s,b,fr,tt,granted,held,m0,m1,rung,clock,mready,aready⟩,0,l⟩=⟨oX,⟨⟨main,aux,f9,arom,ram,own,video,p0,p1,t,s,b,fr,tt,granted,held,m0,m1,rung,clock,mready,aready⟩,0,l⟩,1⟩:=by kernel_rfl
theorem zuT:C.order bD oX ⟨⟨main,aux,f9,arom,ram,own,video,p0,p1,t,s,b,fr,tt,granted,held,m0,m1,rung,clock,mready,aready⟩,0,l⟩=⟨vT,⟨⟨main,aux,f9,arom,ram,own,video,p0,p1,t,s,b,fr,tt,granted,held,m0,m1,rung,clock,mready,aready⟩,0,l⟩,1⟩:=by kernel_rfl
end
structure Wkm (M : Mach) (c : C.Cpu) (clock mready : Int) : Prop where
 rom:M.mrom=f9
 held:M.held=true
 main:M.main=c
 clock:M.clock=clock
 ready:M.mready=mready
theorem zfj{k:Cs}{c e:C.Cpu}{d r f:Int}(h:Wkm k.s.M c d r)(b:k.co=[])(a:Wkm (Bst.stepMain k.s).M e d f):Wkm k.clock.s.M e (d+1) f/\k.clock.co=[]:=by
 have g:k.s.M.pressed k.co=k.s.M:=by rw[b];rfl
 have i:(Bst.stepMain k.s).stepAux=Bst.stepMain k.s:=by
  unfold Bst.stepAux;rw[Q (Or.inl a.held)]
 have j:k.now.s=Bst.stepMain k.s:=by
  show (Bst.stepMain ⟨k.s.M.pressed k.co,k.s.n,k.s.l⟩).stepAux=_;rw[g,i]
 have m:k.clock.s.M=(Bst.stepMain k.s).M.goOn:=by show k.now.s.M.goOn=_;rw[j]
 refine⟨?_,by show k.s.M.coming k.co=[];rw[b];rfl⟩;rw[m];exact⟨a.rom,a.held,a.main,by show (Bst.stepMain k.s).M.clock+1=_;rw[a.clock],a.ready⟩
theorem zsH{s:Bst}{c:C.Cpu}{a r:Int}(h:Wkm s.M c a r)(b:a<r):Wkm (Bst.stepMain s).M c a r:=by
 unfold Bst.stepMain;rw[Q (by rw[h.clock,h.ready];exact b)];exact h
theorem qV{s:Bst}{c d:C.Cpu}{a r n:Int}(h:Wkm s.M c a r)(e:¬ a<r)(g:c.Waits=false)(i:c.May=false)
 (j:∀(main aux:C.Cpu) (arom ram own video:List UInt8) (p0 p1:Pd) (t:TM) (s:Sd) (b:Bem) (fr tt:Int) (granted held:Bool) (m0 m1:Int) (rung:Bool) (clock mready aready:Int) (l:List Wt),
   C.order bD c ⟨⟨main,aux,f9,arom,ram,own,video,p0,p1,t,s,b,fr,tt,granted,held,m0,m1,rung,clock,mready,aready⟩,0,l⟩=⟨d,⟨⟨main,aux,f9,arom,ram,own,video,p0,p1,t,s,b,fr,tt,granted,held,m0,m1,rung,clock,mready,aready⟩,0,l⟩,n⟩):Wkm (Bst.stepMain s).M d a (a+3*n):=by
 unfold Bst.stepMain;rw[G (by rw[h.clock,h.ready];exact e)];obtain⟨⟨main,aux,mrom,arom,ram,own,video,p0,p1,t,k,b,fr,tt,granted,held,m0,m1,rung,clock,mready,aready⟩,m,l⟩:=s;obtain⟨h1,h2,h3,h4,f⟩:=h;dsimp only at h1 h2 h3 h4 f e ⊢;subst h1 h2 h3 h4 f;rw[znJ _ _ _ g i,j main aux arom ram own video p0 p1 t k b fr tt granted true m0 m1 rung clock mready aready l];exact⟨U,U,U,U,by show clock+3*n+0=_;omega⟩
def kI:Mach:=cq f9 []
def rF:Cs:=⟨⟨kI,0,[]⟩,[],[],[]⟩
theorem wk0:Wkm (kI.aft [] 0) rR 0 0:=⟨U,U,by show dO ((b9 f9 []).lookM 0) ((b9 f9 []).lookM 1)=rR;decide +kernel,U,U⟩
theorem mV:∀ j,(rF.clocks j).co=[]
 | 0=>rfl
 | j+1=>by
  show (rF.clocks j).s.M.coming (rF.clocks j).co=[]
  rw[mV j];rfl
theorem wk1:Wkm (kI.aft [] 1) oX 1 3:=(zfj (k:=rF.clocks 0) wk0 (mV 0) (qV (n:=1) wk0 (by decide) U U (λ_ _ _ _ _ _ _ _ _ _ _ _ _ _ _ _ _ _ _ _ _ _=>zuS ..))).1
theorem wk2:Wkm (kI.aft [] 2) oX 2 3:=(zfj (k:=rF.clocks 1) wk1 (mV 1) (zsH wk1 (by decide))).1
theorem rG:Wkm (kI.aft [] 3) oX 3 3:=(zfj (k:=rF.clocks 2) wk2 (mV 2) (zsH wk2 (by decide))).1
theorem wk4:Wkm (kI.aft [] 4) vT 4 6:=(zfj (k:=rF.clocks 3) rG (mV 3) (qV (n:=1) rG (by decide) U U (λ_ _ _ _ _ _ _ _ _ _ _ _ _ _ _ _ _ _ _ _ _ _=>zuT ..))).1
theorem Wkm.nx{j k:Nat}{c:C.Cpu}{a r:Int}(h:Wkm (kI.aft [] j) c a r)(e:(min (max r (a+1)) (0+(5:Nat))-0).toNat=k):wnx kI [] 5 j=k:=by
 unfold wnx Mach.next;rw[h.held,h.clock,h.ready,Q U];exact e
theorem Wkm.no{M:Mach}{c:C.Cpu}{a r:Int}(h:Wkm M c a r)(e:a<r):M.due=[]:=by
 have h1:M.mdue=false:=by unfold Mach.mdue;rw[h.clock,h.ready,aF (by omega)];rfl
 have h2:M.adue=false:=by unfold Mach.adue;rw[h.held];rfl
 unfold Mach.due Mach.mdid Mach.adid;rw[h1,h2];rfl
theorem Wkm.yes{M:Mach}{c:C.Cpu}{a r:Int}(h:Wkm M c a r)(e:r<=a)(b:c.Waits=false)(d:c.May=false):M.due=[⟨a,false,c.PC,dF f9 c.PC.toNat⟩]:=by
 have h1:M.mdue=true:=by unfold Mach.mdue;rw[h.clock,h.ready,aL e,h.main,b,d];rfl
 have h2:M.adue=false:=by unfold Mach.adue;rw[h.held];rfl
 unfold Mach.due Mach.mdid Mach.adid;rw[h1,h2,h.clock,h.main,h.rom];rfl
theorem zvn{a:List Nat}{j:Nat}(h:Way kI [] 5 a j):(a=[]/\j=0) \/ (a=[0]/\j=1) \/ (a=[0,1]/\j=3) \/ (a=[0,1,3]/\j=4) \/ (a=[0,1,3,4]/\j=5):=by
 induction h with
 | nil=>exact Or.inl ⟨U,U⟩
 | cons _ b c =>
  rcases c with⟨rfl,rfl⟩|⟨rfl,rfl⟩|⟨rfl,rfl⟩|⟨rfl,rfl⟩|⟨rfl,rfl⟩
  ·exact Or.inr (Or.inl ⟨U,wk0.nx (by decide)⟩)
  ·exact Or.inr (Or.inr (Or.inl ⟨U,wk1.nx (by decide)⟩))
  ·exact Or.inr (Or.inr (Or.inr (Or.inl ⟨U,rG.nx (by decide)⟩)))
  ·exact Or.inr (Or.inr (Or.inr (Or.inr ⟨U,wk4.nx (by decide)⟩)))
  ·omega
def vU:List UInt8:=[97,100,100,105,32,114,49,44,32,45,49]
def vV:List UInt8:=[104,108,116]
def mL:List Dd:=[⟨0,false,6,vU⟩,⟨3,false,8,vV⟩]
theorem xy:dF f9 6=vU:=by decide +kernel
theorem xD:dF f9 8=vV:=by decide +kernel
theorem zyq{a:List Nat}(h:Way kI [] 5 a 5):(a.map (λi=>(kI.aft [] i).due)).flatten=mL:=by
 have b:a=[0,1,3,4]:=by
  rcases zvn h with⟨_,e⟩|⟨_,e⟩|⟨_,e⟩|⟨_,e⟩|⟨e,_⟩
  ·cases e
  ·cases e
  ·cases e
  ·cases e
  ·exact e
 subst b;simp only[bP,cB,wk0.yes (by decide) U U,wk1.no (by decide),rG.yes (by decide) U U,wk4.no (by decide)];show [(⟨0,false,6,dF f9 6⟩:Dd),⟨3,false,8,dF f9 8⟩]=mL;rw[xy,xD];rfl
theorem zyr:bk 8 (kI.aft [] 3)=true:=by unfold bk;rw[rG.main,rG.clock,rG.ready];rfl
theorem zvo:gQ kI [] 5=0:=by
 have a:kI.chk=0:=by decide +kernel
 have b:bF kI [] 0=0:=zfg a U ⟨by decide,by decide,by show (0:Int)+0<=200000;decide⟩;unfold gQ;rw[b,Q U,Q ⟨by decide,by decide,by show (0:Int)+5<=200000;decide⟩]
theorem zwV{X:Mach}{a:Int}{acc:List Dd}(h:vS kI [] 5 X a acc):a=0/\acc=mL:=by
 rcases h with⟨h1,_,_,h|⟨_,h⟩⟩|⟨h1,_,_,_,_,d,b,c⟩
 ·rw[zvo] at h;exact absurd h h1
 ·exact absurd h (by show ¬ 19000<(0:Int);decide)
 ·exact⟨h1,c.trans (zyq b)⟩
theorem zwW{X:Mach}{t:Bool}{b:Int}{acc:List Dd}(h:oW kI [] 5 (bk 8) (λ_=>[]) X t b acc):b=0/\t=true:=by
 rcases h with⟨h1,_,_,h|⟨_,h⟩⟩|⟨h1,_,_,_,g,j,c,i,hb,h⟩
 ·rw[zvo] at h;exact absurd h h1
 ·exact absurd h (by show ¬ 19000<(0:Int);decide)
 ·refine⟨h1,?_⟩
  rcases h with⟨_,d,_⟩|⟨f,_⟩
  ·have a:j=5:=d
   subst a;rcases zvn c with⟨_,e⟩|⟨_,e⟩|⟨_,e⟩|⟨_,e⟩|⟨e,_⟩
   ·cases e
   ·cases e
   ·cases e
   ·cases e
   ·have:=hb 3 (by rw[e];simp)
    rw[zyr] at this;cases this
  ·exact f
theorem zkS:(Tryz.prog.info? 78).map (·.size)=some 4:=by kernel_rfl
theorem zsI(c p:Int)(a:Bool)(t:ByteArray)(w:World):(binOp .eql 78 (.agg #[.int .i64 c,.bool a,.int .u16 p,.string t]) (.agg #[.int .i64 c,.bool a,.int .u16 p,.string t])).run prog w=.ok (.bool true) w:=by
 have u3:=underlying3;have x3:=isAgg3;have z3:=sizeOf3;have u4:=underlying4;have d:=isAgg4;have z4:=sizeOf4;have e:=underlying22;have f:=isAgg22;have z5:=sizeOf22;have g:=underlying9;have h:=isAgg9;have i:=sizeOf9;have b:Tryz.prog.underlying 78=some (.struct (Tryz.prog.fieldsOf 78)):=by kernel_rfl
 have hp:Tryz.prog.stoodInHeld 78=false:=by kernel_rfl
 rw[cn,show (10000:Nat)=9999+1 from U,cO w 9999 78 _ _ b hp];simp only[Program.fieldsOf,underlying78];go_simp
theorem zsJ(x:Dd)(w:World):(binOp .neq 78 (.agg (fy x).toArray) (.agg (fy x).toArray)).run prog w=.ok (.bool false) w:=zfS (zsI x.c x.pc x.a (aT x.t) w)
theorem zm1:∀(l:List Dd) (i:Nat) (x:Dd),l[i]?=some x->∀(j:Nat) (v:Value),(fy x)[j]?=some v->(jA l)[i*4+j]?=some v
 | [],i,x,h=>by simp at h
 | y::l,0,x,h=>λj v a=>by
  simp only[aY,aP] at h;subst h;rw[fl,aN];show (fy y++jA l)[j]?=_;rw[aR (aA.1 a).1];exact a
 | y::l,i+1,x,h=>λj v a=>by
  rw[bi] at h;have:=zm1 l i x h j v a;show (fy y++jA l)[(i+1)*4+j]?=_;rw[aO (by simp[fy];omega),show (fy y).length=4 from U,show (i+1)*4+j-4=i*4+j by omega];exact this
theorem Wc.sameDid(f v2:Value)(l:List Dd)(w:World)(h1:iJ w f l.length 4 (jA l))(h2:iJ w v2 l.length 4 (jA l))(t:l.length<=1000000):Calls prog 28 #[f,v2] w λe w'=>e=.returned (.bool true)/\Below w.heap.size w w':=by
 obtain⟨a1,u,e1⟩:=h1.len;obtain⟨a2,v,e2⟩:=h2.len;subst e1 e2;have m:=hid h1;have n:=hid h2;clear h1 h2;go_enter func28,ntmps28;go_wp2;go_loopw [13] (λi wr=>∃ j:Nat,j<=l.length/\i=.int .i64 j/\Below w.heap.size w wr) (λi _=>l.length-(intOf i).toNat)
 case atStart=>exact⟨0,aU _,U,J w⟩
 case round =>
  obtain⟨j,y,rfl,hb⟩:=hrel;have g:=hid hb;by_cases b:j<l.length
  ·have h:(j:Int)<l.length:=by omega
   have o:(0:Int)<=j:=by omega
   have p:(j:Int)<1000000:=by omega
   obtain⟨x,d⟩:∃ x,l[j]?=some x:=⟨_,au b⟩
   obtain⟨g1,o1,c1,q1,z,r1⟩:=(m.out.kept hb).range b (zm1 l j x d);obtain⟨k,o2,c2,q,z2,r2⟩:=(n.out.kept hb).range b (zm1 l j x d);cases q1;cases q;have r:=zsJ x;clear hb d;go_upto_region 6 with fail
   refine wp_region_held_drew (S:=λw'=>w'.rangeAt g1 (o1+j*4) (fy x)/\w'.rangeAt k (o2+j*4) (fy x)) (by kernel_rfl) ⟨r1,r2⟩ ?_;intro a;refine ee 0 ⟨some 16,_,_,_,_,none⟩ a ?_;simp only[Act.put,xA,xB,xC];refine ee 1 ⟨some 17,_,_,_,_,none⟩ a ?_;simp only[Act.put,xA,xB,xC];refine ee 2 ⟨some 18,_,_,_,_,none⟩ a ?_;simp only[Act.put,xA,xB,xC];refine iq 3 (.agg (fy x).toArray) U (λw' c=>kt 78 _ U g1 (o1+j*4) U (fy x) _ c.1 underlying78 U zkS) a ?_;refine ee 4 ⟨some 20,_,_,_,_,none⟩ a ?_;simp only[Act.put,xA,xB,xC];refine ee 5 ⟨some 21,_,_,_,_,none⟩ a ?_;simp only[Act.put,xA,xB,xC];refine ee 6 ⟨some 22,_,_,_,_,none⟩ a ?_;simp only[Act.put,xA,xB,xC];refine iq 7 (.agg (fy x).toArray) U (λw' c=>kt 78 _ U k (o2+j*4) U (fy x) _ c.2 underlying78 U zkS) a ?_;refine ee 8 ⟨some 24,_,_,_,_,none⟩ a ?_;simp only[Act.put,xA,xB,xC];refine wpAnyH_done (by kernel_rfl) ?_ _;clear a r1 r2;go_wp2;exact⟨⟨j+1,by omega,by simp,g.out.drew⟩,by simp[intOf];omega⟩
  ·have s:¬ (j:Int)<l.length:=by omega
   clear hb;go_wp2;go_ret;exact⟨U,g.out⟩
theorem zpL:(Tryz.prog.info? 41).map (λi=>(i.zero,i.size,decide (i.bytes<=10000)))=some (some (.agg (D aE aM).toArray),75,true):=by kernel_rfl
theorem zuN{M:Mach}{S:Sl}(a:S.isSl):∀ u∈D M S,u.oneCell'=true:=λu b=>by
 have h:=fG M S a;rw[List.all_toArray] at h;exact bW.1 h u b
theorem zkR{ops:Array Oper}{rest:List Oper}{o:Oper}{a:Act}{w:World}{aj:Exit->Act->World->Prop}(b:o.guard=none)(x:Operand)(c:o.op=.buildSlice 73 1 #[(0,x)])(M:Mach)(S:Sl)(d:a.eval x=.agg (D M S).toArray)
 (h:wpList prog ops aj rest (a.put o.dst (.slice (some ⟨w.heap.size,0,none⟩) 1 1)) (w.alloc (.cells (D M S).toArray 41))):wpList prog ops aj (o::rest) a w:=by
 refine dS b λK e=>?_
 have f:=zsF M S w;generalize D M S=L at *;unfold Oper.wp;simp[execOp,c,d,f,Result.andThen];exact e _ _ h
theorem zmX{ops:Array Oper}{rest:List Oper}{o:Oper}{a:Act}{w:World}{aj:Exit->Act->World->Prop}{B n:Nat}{v:Value}{xs:List Value}{M:Mach}{S:Sl}(d:o.guard=none)(s x:Operand)(f:o.op=.call { callee:=.builtin .append,args:=#[s,x],argTypes:=#[73,73] })(k:a.eval s=v)(c:w.ownsRow B 41 75 v n xs)(g:Nat)(l:a.eval x=.slice (some ⟨g,0,none⟩) 1 1)(e:Bx w g (D M S))(m:S.isSl)(r:n<=1000)(hB:B<=w.heap.size)
 (h:∀ g' b w',w'.ownsRow B 41 75 (.slice (some ⟨g',0,none⟩) (n+1) b) (n+1) (xs++D M S)->w.grownBy w' v.ownBlock->wpList prog ops aj rest (a.put o.dst (.slice (some ⟨g',0,none⟩) (n+1) b)) w'):wpList prog ops aj (o::rest) a w:=by
 have hi:=zpL;generalize p:Tryz.prog.info? 41=i at hi;cases i with
 | none=>cases hi
 | some i0 =>
  simp only[eJ,aP,dD,bC] at hi;obtain⟨h1,h2,h3⟩:=hi;refine wpList_append_lies _ d s x _ f B 41 i0 _ 75 i0.bytes underlying73 p h1 h2 U (by rfl) (by omega) v n xs k c ⟨g,0,none⟩ 1 1 (D M S) l (by rw[cy]) (λj u q=>?_) (zuN m) (by omega) (by unfold maxLen;omega) (ax (lF (show n+1<=1001 by omega) h3) (by decide)) hB w.heap.size U (λg' b w' a1 a2 _ _=>h g' b w' a1 a2);rw[addr_add,aN];exact e.at j u q
theorem zi8{b:Nat}{w:World}{c:Int}(h:w.cell? ⟨b,72,none⟩=some (.int .i64 c)):lA b w=c.toNat:=by
 unfold lA;rw[h]
section
variable {F : Gx} {N ob : Nat} {w w0 W W1 W2 W3 : World} {k k' : Cs} {ps : List (Mach × Sl)} {vps : Value} {L : List Value} {inp : List Inp}
theorem Wl.start(hc:GC F N ob (.slice none 0 0) (.slice none 0 0) W k.s k.ln k.sm)(a:Below w.heap.size w W)(b:Bx W (w.heap.size+1) L)(c:w.heap.size+2<=F.B):Wl F N ob w L k [] (.slice none 0 0) W :=
 ⟨a,⟨_,_,hc⟩,cW _ _ _ _,λp hp=>(by cases hp),λp hp=>(by cases hp),b,c,λp hp=>(by cases hp)⟩
structure Wf (F : Gx) (w : World) (L : List Value) (X : Mach) (ps : List (Mach × Sl)) (vps : Value) (Y : World) : Prop where
 low:Below w.heap.size w Y
 rb:Bx Y (w.heap.size+1) L
 row:iJ Y vps ps.length 75 (ml ps)
 cp:∀ p∈ps,bM Y p.2 p.1
 sl:bM Y F.S X
 g:Y.rangeAt F.g 0 (D X F.S)
 ft:∀ p∈ps,p.1.fit
theorem Wl.wf(h:Wl F N ob w L k ps vps W):Wf F w L k.s.M ps vps W:=by
 obtain⟨vl,vs,hc⟩:=h.c;obtain⟨v,a⟩:=hc.gd;exact⟨h.low,h.rb,qA h.own,h.cp,a.slAt,a.row,h.ft⟩
theorem Wl.fin(i:GK F N ob)(d:∀ k,F.all k->F.B<=k)(h:Wl F N ob w (D aE aM) k ps vps W):Wf F w (D k.s.M F.S) k.s.M ps vps (W.setCells (w.heap.size+1) 0 (D k.s.M F.S)):=by
 obtain⟨vl,vs,hc⟩:=h.c;obtain⟨v,g⟩:=hc.gd;have q:=h.z;have hB:=i.B;have h1:=h.rb.puts 0 (D k.s.M F.S) (by rw[cy,cy];omega);rw[jJ _ _ (by rw[cy,cy])] at h1;have b:Gd F (W.setCells (w.heap.size+1) 0 (D k.s.M F.S)) k.s.M ⟨k.s.n,k.s.l,v⟩:=g.of_same (bA (lU _ _ _ _).symm) (λj _ o=>fO (by have:=d j o;omega) _ _ _) (λj f=>fO (by have:=(fZ g.ws j f).1;omega) _ _ _)
 exact⟨j4 h.low (by omega) _ _,h1,qA (fF h.own (λj e=>fO (by have:=(fZ h.own j e).1;omega) _ _ _)),
  λp hp=>(h.cp p hp).same (bA (lU _ _ _ _).symm) (λj f a m c e r=>fO (by have:=(h.kp p hp j f a.block (by rw[e];rfl)).1;omega) _ _ _),b.slAt,b.row,h.ft⟩
theorem Wl.at(h:Wl F N ob w L k ps vps W)(i:Nat)(u:Value)(hi:i<75)(e:(D k.s.M F.S)[i]?=some u):W.cell? ⟨F.g,i,none⟩=some u:=by
 obtain⟨vl,vs,hc⟩:=h.c;exact hc.at i u hi e
theorem Wl.gz(h:Wl F N ob w L k ps vps W):F.g<W.heap.size:=by
 obtain⟨vl,vs,hc⟩:=h.c;exact hc.gz.1
theorem Wl.nz(a:GK F N ob)(h:Wl F N ob w L k ps vps W):N<=W.heap.size:=by
 obtain⟨vl,vs,hc⟩:=h.c;have:=hc.lt;have:=a.ob;omega
inductive LPost (M : Mach) (inp : List Inp) (N : Nat) (w : World) (e : Ending) (w' : World) : Prop
 | mk (vps:Value) (ps:List (Mach × Sl)) (SX:Sl) (js:List Nat) (h1:e=.returned (.tuple #[vps,.agg (D (M.aft inp N) SX).toArray])) (h2:Way M inp N js N) (h3:ps.map Prod.fst=js.map (M.aft inp)) (h4:iJ w' vps ps.length 75 (ml ps)) (h5:∀ p∈ps,bM w' p.2 p.1) (h6:bM w' SX (M.aft inp N)) (h7:Below w.heap.size w w') (h8:∀ p∈ps,p.1.fit)
end
theorem Wt.looks(M:Mach)(S:Sl)(v:Value)(inp:List Inp)(N:Nat)(w:World)(hs:bM w S M)(hsz:∀ j,j<5->(M.byt j).length<=140737488355328)(hF:Facts w)(hg:1<w.heap.size/\0<w.heap.size/\2<w.heap.size)(hin:bE w.heap.size w v inp)(hf:M.fit)(hR:InR M inp)(h19:M.b.f<=19000)(hN:N<=500/\M.clock+N<=200000):Calls prog 26 #[.agg (D M S).toArray,v,.int .i64 N] w (LPost M inp N w):=by
 obtain⟨h,p⟩:∃ h:Cs,h=⟨⟨M,0,[]⟩,inp,[],[]⟩:=⟨_,U⟩
 have HA:Hid (∀ j,(h.clocks j).s.M=M.aft inp j):=hid (λj=>by rw[p];rfl);have HD0:Hid (pG inp h):=hid (by rw[p];exact pG.of hR.ck);have HM:Hid (∀ j,j<N->(h.clocks j).may):=hid (λj hj=>by rw[p];exact qU hf (by omega) ⟨by omega,hN.2⟩ hj);have r:Hid (∀ j,(h.clocks j).s.M.clock=M.clock+j):=hid (λj=>by rw[HA.out j];exact pU hR j);have HOK:Hid (∀ x∈inp,x.ok):=hid (λx hx=>⟨(qx inp _ (qB hR.ck).2 x hx).1,hR.dn x hx⟩);have HLI:Hid (inp.length<=40):=hid (qB hR.ck).1;have HK0:=hid p;have hc0:0<=M.clock:=hf.clock.1;have HC0:=hid hc0;have H:Below w.heap.size w ((w.alloc (.cells (D M S).toArray 41)).alloc (.cells (D aE aM).toArray 41)):=stA (stA (J w) _) _;have HBM:=hid ((Bx.new w (D M S) 41 (b:=w.heap.size) U).over (.cells (D aE aM).toArray 41));have HRB:=hid (Bx.new (w.alloc (.cells (D M S).toArray 41)) (D aE aM) 41 (b:=w.heap.size+1) (by simp));have HS:=hid (hs.kept H);have HFX:=hid (hF.kept H);have HIN:=hid hin
 have HW0:=hid H;have HG:=hid hg;have HF:=hid hf;have HSZ:=hid hsz;have HR:=hid hR;have HN:=hid hN;clear hs hF hin hf hN H hg hsz hR h19 p;go_enter func26,ntmps26;go_upto_region 3 with(first
  | (refine wpList_load_mid U 41 _ U w.heap.size 0 U (D M S) _ HBM.out.c underlying41 U bV ?_)
  | (go_at_call 8;refine(sL M S _ HS.out HSZ.out).mono ?_;rintro e w1 ⟨S1,rfl,hO,I⟩;have HO:Hid (OwnS (w.heap.size+4) S1 M w1):=hid (by simpa using hO);have HBM1:=hid (HBM.out.kept I);have HRB1:=hid (HRB.out.kept I);have HB1:=hid I;clear hO I)
  | (refine zcA U 107 0 _ U (.agg (D M S1).toArray) _ U (qu M S1 _) ?_))
 have hB1:w.heap.size+4<=w1.heap.size:=by
  obtain⟨kk,L,_,_,hBk,hbx,_⟩:=HO.out.own 0 (by omega);have:=hbx.z;omega
 obtain⟨F,hFB,hFg,hlo,hGK,hGC⟩:=zvk HO.out HF.out hB1 (HFX.out.kept HB1.out) (by have:=HG.out;omega) 107;obtain⟨w2,P⟩:∃ w2,w2=((w1.alloc (.cells (D M S1++nf).toArray 107)).alloc (.cells #[.slice none 0 0,.slice none 0 0,.slice none 0 0] 47)):=⟨_,U⟩
 rw[<- P] at hGC;have R:Below w1.heap.size w1 w2:=by rw[P];exact stA (stA (J w1) _) _
 have HBM2:=hid (HBM1.out.kept R);have HRB2:=hid (HRB1.out.kept R);have HLW2:=hid (bn (bn HW0.out HB1.out) R);have l:=hid hGK;have HLO:=hid hlo;have HGC:=hid hGC;have HFB:=hid hFB;rw[<- hFg] at *;clear hGK hGC hlo R HBM HRB HS HFX HB1 HO hB1 HBM1 HRB1 hFB;have HW2:=hid P;refine Pl.cutW (λY=>Wl F (F.g+1) (F.g+1) w (D aE aM) h [] (.slice none 0 0) Y/\Bx Y w.heap.size (D M S)) (by rw[<- HW2.out];exact⟨Wl.start (by rw[HK0.out];exact HGC.out) HLW2.out HRB2.out (by have:=HFB.out;omega),HBM2.out⟩) ?_;intro Y hY;have m:=hY.2.at 72 (.int .i64 M.clock) U;have xz:=hY.2.z;have HY:=hid hY.1;clear hY P HGC HBM2 HRB2 HLW2 HW2;obtain⟨e,he⟩:∃ e:Int,e=M.clock+N:=⟨_,U⟩
 have hwr:IntKind.i64.wrap (M.clock+(N:Int))=e:=by rw[aI];have:=HN.out;omega
 have he2:e<=200000:=by have:=HN.out;omega
 have HE:=hid he;clear he;go_wp2;clear m xz hwr;go_loopw [6] (λv6 wr=>∃(j:Nat) (js:List Nat) (ps:List (Mach × Sl)),j<=N/\Way M inp N js j/\ps.map Prod.fst=js.map (M.aft inp)/\Wl F (F.g+1) (F.g+1) w (D aE aM) (h.clocks j) ps v6 wr) (λ_ wr=>e.toNat-lA F.g wr)
 case atStart=>exact⟨0,[],[],aU _,Way.nil,U,HY.out⟩
 case round =>
  obtain⟨j,js,ps,hj,hWy,hps,hX⟩:=hrel;obtain⟨av,cv,ev⟩:=vj hX.own;subst ev;obtain⟨c,hc⟩:∃ c:Int,c=M.clock+(j:Int):=⟨_,U⟩
  have hck:=r.out j;have m:=hX.at 72 (.int .i64 (h.clocks j).s.M.clock) (by omega) U;rw[hck,<- hc] at m;have hcl:=zi8 m;have xz:=hX.gz;have HX:=hid hX;have HWY:=hid hWy;have HPS:=hid hps;have HCE:=hid hc;have HCL:=hid hcl;have hc0:0<=c:=by have:=HC0.out;omega
  have HJ:=hid hj;clear HY hX hWy hps hck hcl hj;by_cases T:j<N
  ·have hce:c<e:=by have:=HE.out;omega
   have hc1:c<200000:=by omega
   have hps1:ps.length<=500:=by
    have h1:=congrArg List.length HPS.out;rw[ba,ba] at h1;have:=(HWY.out.le HR.out).2;have:=HN.out.1;omega
   obtain⟨X,k⟩:∃ X,X=(h.clocks j).s.M:=⟨_,U⟩
   have u:=hid k;obtain⟨q,hq⟩:∃ q,q=wnx M inp N j:=⟨_,U⟩
   have n:Hid (j<q/\q<=N):=hid (by rw[hq];exact znW HR.out T);have HQ:=hid hq;have hnxt:max (if X.held then X.mready else min X.mready X.aready) (c+1)=X.next:=by
    unfold Mach.next;rw[k,r.out j,<- hc]
   have a:min X.next e=M.clock+q:=by
    have h1:=zsB HR.out T;rw[<- HA.out j,<- k,<- HE.out,<- hq] at h1;have h2:=n.out.1;omega
   obtain⟨t,ht⟩:∃ t:Int,t=M.clock+q:=⟨_,U⟩
   rw[<- hnxt,<- ht] at a;have HMIN:=hid a;have HT:=hid ht;have HLT:=hid T
   have y:Hid (wr.rangeAt F.g 0 (D X F.S)/\bM wr F.S X/\X.fit):=hid (by
    obtain⟨vl,vs,hcc⟩:=HX.out.c;obtain⟨vv,hd⟩:=hcc.gd;rw[k];exact⟨hd.row,hd.slAt,hd.fit⟩)
   have HPL:=hid hps1;clear k hq hnxt a ht T hps1 hc;go_upto_region 6 with(first
    | (at_builtin;refine zmX (M:=X) (S:=S1) U _ _ (by rfl) (by rfl) HOW.out w3.heap.size (by rfl) HBX.out W.out (by have:=HPL.out;omega) HBZ.out ?_;intro g' L W3 B hg'
       refine Pl.cutL (Wl F (F.g+1) (F.g+1) w (D aE aM) (h.clocks j) (ps++[(X,S1)]) (.slice (some ⟨g',0,none⟩) (ps.length+1) L)) (Wl.saw l.out HX.out Z.out HO3.out (HX.out.nz l.out) y.out.2.2 hg' B) ?_;intro V hV;have o:=hid hV;clear hV B hg')
    | (refine zkR U _ U X S1 U ?_
       have HOW:Hid ((w3.alloc (.cells (D X S1).toArray 41)).ownsRow (F.g+1) 41 75 (.slice av ps.length cv) ps.length (ml ps)):=hid (HX.out.kept (bn Z.out (stA (J w3) _))).own;have HBX:=hid (Bx.new w3 (D X S1) 41 (b:=w3.heap.size) U);have W:=hid (jL HO3.out.slAt);have HBZ:Hid (F.g+1<=(w3.alloc (.cells (D X S1).toArray 41)).heap.size):=hid (HX.out.kept (bn Z.out (stA (J w3) _))).nz l.out)
    | (go_at_call 8;refine(sL X F.S _ y.out.2.1 (λj hj=>ax (sH y.out.2.2 j hj) (by decide))).mono ?_;rintro e3 w3 ⟨S1,rfl,hO3,hb3⟩;have HO3:=hid hO3;have Z:=hid hb3;clear hO3 hb3)
    | (refine wpList_load_mid U 41 _ U F.g 0 U (D X F.S) _ y.out.1 underlying41 U bV ?_))
   clear y HX m HOW HBX W HBZ HO3 Z;have y72:=o.out.at 72 (.int .i64 (h.clocks j).s.M.clock) (by omega) U;have y73:=o.out.at 73 (.int .i64 (h.clocks j).s.M.mready) (by omega) U;have y68:=o.out.at 68 (.bool (h.clocks j).s.M.held) (by omega) U;have y74:=o.out.at 74 (.int .i64 (h.clocks j).s.M.aready) (by omega) U;rw[r.out j,<- HCE.out] at y72;rw[<- u.out] at y73 y68 y74;have yz:=o.out.gz;have a:=HMIN.out;obtain⟨hd,hhd⟩:∃ b,b=X.held:=⟨_,U⟩
   rw[<- hhd] at y68 a;clear hhd;cases hd;all_goals
    simp only[dL,dt,bK] at a;go_wp2;clear y72 y73 y68 y74 yz a;go_loopw [] (λwi=>∃ i:Nat,j<=i/\i<=q/\Wl F (F.g+1) (F.g+1) w (D aE aM) (h.clocks i) (ps++[(X,S1)]) (.slice (some ⟨g',0,none⟩) (ps.length+1) L) wi) (λwi=>e.toNat-lA F.g wi)
    case atStart=>exact⟨j,ak _,ga n.out.1,o.out⟩
    case round =>
     obtain⟨i,hi1,hi2,hXi⟩:=hrel;obtain⟨d,hdc⟩:∃ d:Int,d=M.clock+(i:Int):=⟨_,U⟩
     have z72:=hXi.at 72 (.int .i64 (h.clocks i).s.M.clock) (by omega) U;rw[r.out i,<- hdc] at z72;have hcl2:=zi8 z72;have HCL2:=hid hcl2;have zz:=hXi.gz;have E:=hid hXi;have HDC:=hid hdc;have HI:=hid (And.intro hi1 hi2);clear hXi hdc hi1 hi2 hcl2;by_cases hlt2:i<q
     ·have hdt:d<t:=by have:=HDC.out;have:=HT.out;omega
      have HL2:=hid hlt2
      have HNX:=hid (by
       obtain⟨vl,vs,hcc⟩:=E.out.c;exact zvj l.out hcc ((HIN.out.kept E.out.low).mono (by have:=E.out.z;omega)) HOK.out HLI.out (HD0.out.clocks i) (HM.out i (by have:=n.out;omega)))
      clear hlt2;go_wp2_with (go_at_call 41;refine HNX.out.mono ?_;rintro e4 w4 ⟨rfl,vl2,vs2,hG2⟩;have HX2:Hid (Wl F (F.g+1) (F.g+1) w (D aE aM) (h.clocks (i+1)) (ps++[(X,S1)]) (.slice (some ⟨g',0,none⟩) (ps.length+1) L) w4):=hid (Wl.clock l.out E.out hG2);clear hG2)
      have u72:=HX2.out.at 72 (.int .i64 (h.clocks (i+1)).s.M.clock) (by omega) U;rw[r.out (i+1)] at u72;have hu:=zi8 u72;refine⟨⟨i+1,by have:=HI.out;omega,by have:=HL2.out;omega,HX2.out⟩,?_⟩;rw[hu,HCL2.out,HDC.out];have:=HE.out;have:=HL2.out;have:=n.out;have:=HC0.out;omega
     ·have hdt:¬ d<t:=by have:=HDC.out;have:=HT.out;omega
      have hiq:i=q:=by have:=HI.out;omega
      subst hiq;go_wp2;refine⟨⟨i,js++[j],ps++[(X,S1)],n.out.2,by rw[HQ.out];exact Way.cons HWY.out HLT.out,by rw[fM,fM,HPS.out];simp[u.out,HA.out],E.out⟩,?_⟩;rw[HCL2.out,HCL.out,HDC.out,HCE.out];have:=HE.out;have:=n.out;have:=HC0.out;omega
  ·have hjn:j=N:=by have:=HJ.out;omega
   subst hjn;have hnl:¬ c<e:=by have:=HE.out;have:=HCE.out;omega
   go_upto_region 12 with fail
   refine Pl.cutW (Wl F (F.g+1) (F.g+1) w (D aE aM) (h.clocks j) ps (.slice av ps.length cv)) HX.out ?_;intro Y1 hY1;have HY:=hid (hY1.kept (J Y1).drew);have hXA:=HA.out j;have hfi:=(HY.out.fin l.out HLO.out)
   have hwf:=HY.out.wf;rw[hXA] at hfi hwf;have HFI:=hid hfi;have HWF:=hid hwf;have W:=hid (jL hwf.sl);obtain⟨X,k⟩:∃ X,X=M.aft inp j:=⟨_,U⟩
   have u:=hid k;rw[<- k] at HFI HWF;clear hY1 HX hXA hfi hwf k m;refine wp_region_held_drew (S:=λw'=>w'.rangeAt F.g 0 (D X F.S)) (by kernel_rfl) (HWF.out.g) ?_;intro hS;refine ee 0 ⟨some 73,_,_,_,_,none⟩ hS ?_;simp only[Act.put,xA,xB,xC];refine ee 1 ⟨some 74,_,_,_,_,none⟩ hS ?_;simp only[Act.put,xA,xB,xC];refine ee 2 ⟨some 75,_,_,_,_,none⟩ hS ?_;simp only[Act.put,xA,xB,xC];refine ee 3 ⟨some 76,_,_,_,_,none⟩ hS ?_;simp only[Act.put,xA,xB,xC];refine iq 4 (.agg (D X F.S).toArray) U (λw' hSw=>kt 41 _ U F.g 0 U (D X F.S) _ hSw underlying41 U bV) hS ?_;refine ee 5 ⟨some 6,_,_,_,_,none⟩ hS ?_;simp only[Act.put,xA,xB,xC];clear hS;refine pE (i:=6) (op:=⟨none,_,_,_,_,none⟩) (by kernel_rfl) U U 41 _ _ U (w.heap.size+1) 0 (D X F.S).toArray U U (HWF.out.rb.there 0 75 (by rw[cy];omega)) bV (fG _ _ W.out) HFI.out.g ?_;refine wpAnyH_done (by kernel_rfl) ?_ _;refine Pl.cutE (Wf F w (D X F.S) X ps (.slice av ps.length cv)) HFI.out ?_
   intro V hV;have o:=hid hV;clear hV HY HFI HWF;go_wp2;refine ao (v:=.tuple #[.slice av ps.length cv,.agg (D X F.S).toArray]) ?_ U ⟨.slice av ps.length cv,ps,F.S,js,by rw[u.out],HWY.out,HPS.out,o.out.row,o.out.cp,by rw[<- u.out];exact o.out.sl,o.out.low,o.out.ft⟩;have l1:=run_loadVar_mid V (w.heap.size+1) 0 41 _ _ o.out.rb.c underlying41 U bV;simp only[results,results26];simp;show (Result.andThen (Sem.run prog (loadVar 41 ⟨w.heap.size+1,0,none⟩) V) _)=_;rw[l1];rfl
theorem zwQ{H:Type}{enc:TypeId × Value->H}{W:World}{v:Value}{x:DataW H × List MemPlace}{fuel:Nat}(f:DataW.trod enc prog W 0 (λ_=>true) true fuel 26 [v]=some x)(g:∀ n∈x.1.weights prog 26,n<=reachBytes):∃ a k c,v=.slice a k c/\k<=reachBytes:=by
 have c1:Tryz.prog.cellsOf 5=1:=by kernel_rfl
 have b1:Tryz.prog.bytesOf 5=1:=by kernel_rfl
 rcases open_ints underlying26 underlying5 c1 f with⟨hc,_⟩|⟨h,b,d,zs,hc,_,i,o,j,l,e,m⟩
 ·exact⟨none,0,0,by simpa using hc,aU _⟩
 ·refine⟨some h,b,d,by simpa using hc,?_⟩
  simp only[dL] at j;have:=g (((lits (H:=H) .u8 (zs.take b)).length+(lits (H:=H) .u8 (zs.drop b)).length)*Tryz.prog.bytesOf 5) (by rw[l];simp[DataW.weights,underlying26]);simp only[lits,ba,b1,bu,dh] at this;omega
theorem zj7{H:Type}{enc:TypeId × Value->H}{W:World}{M:Mach}{S:Sl}{d:DataW H}{p:List MemPlace}(h:DataW.Trod enc prog W 0 (λ_=>true) true 41 (.agg (D M S).toArray) d p)(B:∀ n∈d.weights prog 41,n<=reachBytes)(E:S.lens M):∀ j,j<5->(M.byt j).length<=140737488355328:=by
 obtain⟨fuel,s⟩:=h;have F:DataW.trod enc prog W 0 (λ_=>true) true fuel 41 (D M S)=some (d,p):=s;obtain⟨xs,m,_,x,_,o,b⟩:=cG underlying41 F;have N:xs.length=20:=o;simp only[dD] at x;have I:Tryz.prog.cellsOf 26=1:=by kernel_rfl
 have P:=reachBytes_lt;have key:∀(j:Nat) (i:Nat) (hi:i<20),(DataW.trod enc prog W 0 (λ_=>true) true m 26 (((D M S).drop (30+j)).take (Tryz.prog.cellsOf 26))=xs[i]?)->(∀(y:DataW H × List MemPlace),xs[i]?=some y->∀ n∈y.1.weights prog 26,n∈d.weights prog 41)->j<5->(M.byt j).length<=140737488355328:=λj i hi g q l=>by
  have u:=zio M S j l;have L:((D M S).drop (30+j)).take 1=[S.get j]:=by rw[kg,jz,u];rfl
  rw[I,L,au (by omega)] at g;obtain⟨a,k,c,e,R⟩:=zwQ g (λn v=>B n (q _ (au (by omega)) n v));obtain⟨T,V,z⟩:=E j l;rw[e] at z;simp only[fd] at z;omega
 have r:∀(i:Nat) (y:DataW H × List MemPlace),xs[i]?=some y->(i=2 \/ i=3 \/ i=4 \/ i=5 \/ i=6)->∀ n∈y.1.weights prog 26,n∈d.weights prog 41:=λi y f hi n v=>by
  rw[x.1];simp only[DataW.weights,underlying41];have w:(xs.map (·.1))[i]?=some y.1:=by rw[aX,f];rfl
  rcases hi with rfl|rfl|rfl|rfl|rfl
  all_goals exact DataW.weights_mem_each (t:=26) U w n v
 intro j l;rcases five l with rfl|rfl|rfl|rfl|rfl
 ·exact key 0 2 (by omega) (b 2 _ U) (λy f=>r 2 y f (by omega)) l
 ·exact key 1 3 (by omega) (b 3 _ U) (λy f=>r 3 y f (by omega)) l
 ·exact key 2 4 (by omega) (b 4 _ U) (λy f=>r 4 y f (by omega)) l
 ·exact key 3 5 (by omega) (b 5 _ U) (λy f=>r 5 y f (by omega)) l
 ·exact key 4 6 (by omega) (b 6 _ U) (λy f=>r 6 y f (by omega)) l
end Go.Proofs.YthghjlinhokimaaGreatDoor
