/-
  For every machine, anything that is pressed and every number the law WatchTrace of the program returns true and leaves its arguments as they were; the listed library variables are as the tied card says.
-/
import Derived.Test.YthghjlinhokimaaGreatDoorZbA
import Derived.Test.YthghjlinhokimaaGreatDoorZbWatchTrace06
import Derived.Test.YthghjlinhokimaaGreatDoorZbWatchTrace05
import Derived.Test.YthghjlinhokimaaGreatDoorZbWatchTrace03
set_option linter.all false
set_option maxRecDepth 100000
set_option maxHeartbeats 6400000
open Option renaming none->G,some->A
open Go renaming World->u,Value->π,Calls->Δ
open Bool renaming false->ξ,true->Γ
open Go.Act renaming put->ag
open Or renaming inl->aj
open Go.Value renaming int->J,slice->κ,bool->ν,agg->ac
open Go.IntKind renaming i64->Q,u16->Y
open Go.Ending renaming returned->μ
open Go.Obj renaming cells->χ
namespace Go.Proofs.YthghjlinhokimaaGreatDoor
open Go.ChangeShapes Go.WideShapes Go.ChangeAt Go.RowKit Go.Proofs.Tryz
def wj(M:Mach)(l:List Inp)(n:Nat):Nat->Nat
 | 0=>0
 | k+1=>wnx M l n (wj M l n k)
theorem Way.at{M:Mach}{l:List Inp}{n j:Nat}{a:List Nat}(w:Way M l n a j):a=(List.range a.length).map (wj M l n)/\j=wj M l n a.length /\ ∀ i,i<a.length->wj M l n i<n:=by
 induction w with
 | nil=>exact⟨D,D,λi hi=>absurd hi (Nat.not_lt_zero _)⟩
 | @cons a j w c d =>
  obtain⟨h1,h2,h3⟩:=d;have e:(a++[j]).length=a.length+1:=by simp
  refine⟨?_,?_,λi hi=>?_⟩
  ·rw[e,gP,gQ,<- h1,h2];rfl
  ·rw[e,wj,<- h2]
  ·rw[e] at hi
   by_cases b:i=a.length
   ·rw[b,<- h2];exact c
   ·exact h3 i (by omega)
theorem Way.get{M:Mach}{l:List Inp}{n j:Nat}{a:List Nat}(w:Way M l n a j){i:Nat}(hi:i<a.length):a[i]?=A (wj M l n i):=by
 rw[w.at.1,bn,ij hi];rfl
theorem Way.len{M:Mach}{l:List Inp}{n:Nat}{b a:List Nat}(w:Way M l n b n)(w':Way M l n a n):b.length=a.length:=by
 obtain⟨_,h2,h3⟩:=w.at;obtain⟨_,d,c⟩:=w'.at;by_cases h:b.length<a.length
 ·have:=c _ h;omega
 ·by_cases e:a.length<b.length
  ·have:=h3 _ e;omega
  ·omega
theorem zvj{M:Mach}{l:List Inp}{n:Nat}{a:List Nat}{ps:List (Mach × Sl)}(w:Way M l n a n)(h:ps.map Prod.fst=a.map (M.aft l)){i:Nat}(hi:i<ps.length):∃ SX,ps[i]?=A (M.aft l (wj M l n i),SX):=by
 have b:ps.length=a.length:=by have:=congrArg List.length h;rwa [bf,bf] at this
 have h1:(ps.map Prod.fst)[i]?=(a.map (M.aft l))[i]?:=by rw[h]
 rw[bn,bn,w.get (by omega),aq hi] at h1;simp only[iG,aZ] at h1;refine⟨ps[i].2,?_⟩;rw[aq hi,<- h1]
theorem Wt.nom(S:Sl)(w:u)(d:cf w S aD):Δ prog 13 #[ac (υ aD S).toArray] w λe w'=>e=μ (ν Γ)/\Below w.heap.size w w':=by
 have f:=hid (Bx.new w (υ aD S) 41 (b:=w.heap.size) D);have g:=hid d;clear d;go_enter func13,ntmps13;go_wp2_with (first
  | (refine wpList_load_mid D 41 _ D w.heap.size 0 D (υ aD S) _ f.out.c underlying41 D cn ?_)
  | (refine zeN D 41 D _ (zqk _) ?_)
  | (go_at_call 12;refine(rv aD S aP _ (g.out.kept (stA (aR w) _)) (Aa _)).mono ?_;rintro e w4 ⟨rfl,a⟩))
 go_ret;exact⟨D,bw (stA (aR w) _) a⟩
structure BK (w w1 : u) (M : Mach) (S : Sl) (X : Mach) (SX : Sl) (ι : u) : Prop where
 low:Below w.heap.size w ι
 mb:Bx ι w.heap.size (υ M S)
 xb:Bx ι w1.heap.size (υ X SX)
 sl:cf ι SX X
 ms:cf ι S M
section
variable {w w1 w7 ι Y' : u} {M X E : Mach} {S SX SE : Sl} {vps : π} {ps : List (Mach × Sl)}
theorem BK.kept(h:BK w w1 M S X SX ι)(hb:Below ι.heap.size ι Y'):BK w w1 M S X SX Y':=⟨bw h.low hb,h.mb.kept hb,h.xb.kept hb,h.sl.kept hb,h.ms.kept hb⟩
theorem BK.mk0(c:Below w.heap.size w w1)(d:Bx w1 w.heap.size (υ M S))(e:cf w1 SX X)(a:cf w1 S M):BK w w1 M S X SX ((w1.alloc (χ (υ aD aP).toArray 41)).setCells w1.heap.size 0 (υ X SX)):=by
 have h1:=(Bx.new w1 (υ aD aP) 41 (b:=w1.heap.size) D).puts 0 (υ X SX) (by rw[dG,dG];omega);rw[mK _ _ (by rw[dG,dG])] at h1;have hb:Below w1.heap.size w1 ((w1.alloc (χ (υ aD aP).toArray 41)).setCells w1.heap.size 0 (υ X SX)):=ni (stA (aR w1) _) (ψ _) _ _;exact⟨bw c hb,d.kept hb,h1,e.kept hb,a.kept hb⟩
structure BL (w w1 w7 : u) (M : Mach) (S : Sl) (X : Mach) (SX : Sl) (E : Mach) (SE : Sl) (vps : π) (ps : List (Mach × Sl)) (ι : u) : Prop extends BK w w1 M S X SX ι where
 eb:Bx ι w7.heap.size (υ E SE)
 es:cf ι SE E
 row:kO ι vps ps.length 75 (qR ps)
 cp:∀ p∈ps,cf ι p.2 p.1
theorem BL.kept(h:BL w w1 w7 M S X SX E SE vps ps ι)(hb:Below ι.heap.size ι Y'):BL w w1 w7 M S X SX E SE vps ps Y':=⟨h.toBK.kept hb,h.eb.kept hb,h.es.kept hb,h.row.kept hb,λp hp=>(h.cp p hp).kept hb⟩
theorem BL.mk0(h:BK w w1 M S X SX w7)(a:cf w7 SE E)(c:kO w7 vps ps.length 75 (qR ps))(hc:∀ p∈ps,cf w7 p.2 p.1):BL w w1 w7 M S X SX E SE vps ps ((w7.alloc (χ (υ aD aP).toArray 41)).setCells w7.heap.size 0 (υ E SE)):=by
 have h1:=(Bx.new w7 (υ aD aP) 41 (b:=w7.heap.size) D).puts 0 (υ E SE) (by rw[dG,dG];omega);rw[mK _ _ (by rw[dG,dG])] at h1;have hb:Below w7.heap.size w7 ((w7.alloc (χ (υ aD aP).toArray 41)).setCells w7.heap.size 0 (υ E SE)):=ni (stA (aR w7) _) (ψ _) _ _;exact⟨h.kept hb,h1,a.kept hb,c.kept hb,λp hp=>(hc p hp).kept hb⟩
end
def pC(M:Mach)(l:List Inp)(n k:Nat):List Dd:=((List.range k).map (λi=>(M.aft l (wj M l n i)).due)).flatten
theorem zmE(M:Mach)(l:List Inp)(n k:Nat):pC M l n (k+1)=pC M l n k++(M.aft l (wj M l n k)).due:=by
 unfold pC;rw[gP,gQ,nQ];simp
theorem zkR(M:Mach)(l:List Inp)(n:Nat):∀ k,(pC M l n k).length<=2*k
 | 0=>ψ _
 | k+1=>by
  rw[zmE,az];have:=zkR M l n k;have:=zpd (M.aft l (wj M l n k));omega
theorem zxL{M:Mach}{l:List Inp}{n:Nat}{b a:List Nat}(w:Way M l n b n)(w':Way M l n a n):pC M l n b.length=(a.map (λi=>(M.aft l i).due)).flatten:=by
 rw[w'.at.1,w.len w'];unfold pC;rw[kQ];rfl
theorem zxM(Z:Mach):Z.mdid.length<=1:=by unfold Mach.mdid;split <;> simp
structure WS (y8 wr : u) (Z : Mach) (SZ : Sl) (v : π) (acc : List Dd) (ι : u) : Prop where
 low:Below y8.heap.size y8 ι
 bx:Bx ι wr.heap.size (υ Z SZ)
 own:ι.ownsRow y8.heap.size 78 4 v acc.length (lE acc)
 ne:∀ k,v.ownBlock=A k->k≠wr.heap.size
section
variable {y8 wr ι Y' : u} {Z : Mach} {SZ : Sl} {v v' : π} {acc acc' : List Dd}
theorem WS.kept(h:WS y8 wr Z SZ v acc ι)(hb:Below ι.heap.size ι Y'):WS y8 wr Z SZ v acc Y':=⟨bw h.low hb,h.bx.kept hb,yA h.own hb,h.ne⟩
theorem WS.grown(h:WS y8 wr Z SZ v acc ι)(c:Y'.ownsRow y8.heap.size 78 4 v' acc'.length (lE acc'))(a:ι.grownBy Y' v.ownBlock)(d:∀ k,v'.ownBlock=A k->v.ownBlock=A k \/ k=ι.heap.size):WS y8 wr Z SZ v' acc' Y' :=
 ⟨h.low.grown a h.low.size (λk e=>(jE h.own k e).1),h.bx.same a.size (a.block _ h.bx.z (λe=>h.ne _ e.symm rfl)),c,λk e=>(d k e).elim (λb=>h.ne k b) (λb=>by have:=h.bx.z;omega)⟩
theorem WS.s3(h:WS y8 wr Z SZ v acc ι):ι.cell? ⟨wr.heap.size,72,G⟩=A (J Q Z.clock)/\ι.cell? ⟨wr.heap.size,8,G⟩=A (J Y Z.main.PC)/\ι.cell? ⟨wr.heap.size,30,G⟩=A SZ.mr:=⟨h.bx.at 72 _ rfl,h.bx.at 8 _ rfl,h.bx.at 30 _ rfl⟩
theorem WS.s5(h:WS y8 wr Z SZ v acc ι):ι.cell? ⟨wr.heap.size,72,G⟩=A (J Q Z.clock)/\ι.cell? ⟨wr.heap.size,23,G⟩=A (J Y Z.aux.PC)/\ι.cell? ⟨wr.heap.size,31,G⟩=A SZ.ar:=⟨h.bx.at 72 _ rfl,h.bx.at 23 _ rfl,h.bx.at 31 _ rfl⟩
theorem WS.mk0(c:Below y8.heap.size y8 wr)(a:wr.ownsRow y8.heap.size 78 4 v acc.length (lE acc)):WS y8 wr Z SZ v acc ((wr.alloc (χ (υ aD aP).toArray 41)).setCells wr.heap.size 0 (υ Z SZ)):=by
 have h1:=(Bx.new wr (υ aD aP) 41 (b:=wr.heap.size) D).puts 0 (υ Z SZ) (by rw[dG,dG];omega);rw[mK _ _ (by rw[dG,dG])] at h1;have hb:Below wr.heap.size wr ((wr.alloc (χ (υ aD aP).toArray 41)).setCells wr.heap.size 0 (υ Z SZ)):=ni (stA (aR wr) _) (ψ _) _ _;exact⟨bw c hb,h1,yA a hb,λk e=>by have:=(jE a k e).2.1;omega⟩
end
theorem Wt.trace_a(M:Mach)(S:Sl)(v:π)(l:List Inp)(n:Int)(w:u)(N:AF w)(L:cf w S M)(hz:∀ j,j<5->(M.byt j).length<=9223372036854775807)(a:M.ok)(k:bP w.heap.size w v l)(s:∀ x∈l,0<=x.d/\x.d<=255)(P:-9223372036854775808<=n/\n<=9223372036854775807)(R:jz M l n≠0):Δ prog 6 #[ac (υ M S).toArray,v,J Q n] w λe w'=>e=μ (ν Γ)/\Below w.heap.size w w':=by
 have q:Below w.heap.size w (w.alloc (χ (υ M S).toArray 41)):=stA (aR w) _;have HB:=hid (Bx.new w (υ M S) 41 (b:=w.heap.size) D);have T:=hid (Wc.trace M S v l n _ (N.kept q) (L.kept q) hz a ((k.kept q).mono q.size) s P);have t:=hid (λ(W:u) (h:bP W.heap.size W v l)=>Wt.badRun M S v l n W L.lens a h P);have HQ:=hid q;have HF:=hid N;have HS:=hid L;have U:=hid k;obtain⟨r,f⟩:∃ r,r=jz M l n:=⟨_,D⟩
 rw[xD a,<- f] at t;have hnz:(r != 0)=Γ:=by rw[f];simpa using R
 have hee:(r == r)=Γ:=by simp
 have V:=hid f;have HR:=hid R;clear q N L hz a k s P f R;go_enter func6,ntmps6;go_wp2_with (first
  | (go_at_call 13;refine(Wt.nom SX _ m.out.sl).mono ?_;rintro e w6 ⟨rfl,y⟩;have Z:=hid (bw m.out.low y);clear y)
  | (refine Bu.loadG D 41 _ D w1.heap.size 0 D (υ aD SX) _ m.out.xb.c underlying41 D cn ?_)
  | (go_at_call 25;have hy4:=o.out;clear hy4;refine(Wc.watched _ (HF.out.kept o.out.low)).mono ?_;rintro e w5 ⟨rfl,z⟩;have m:=hid (o.out.kept z);clear z)
  | (go_at_call 25;have hy3:=p.out;clear hy3;refine(Wc.watched _ (HF.out.kept p.out.low)).mono ?_;rintro e w4 ⟨rfl,B⟩;have o:=hid (p.out.kept B);clear B)
  | (go_at_call 10;refine(t.out _ ((U.out.kept g.out.low).mono g.out.low.size)).mono ?_;rintro e w3 ⟨rfl,E⟩;have p:=hid (g.out.kept E);clear E)
  | (refine wpList_load_mid D 41 _ D w.heap.size 0 D (υ M S) _ g.out.mb.c underlying41 D cn ?_)
  | (refine wpList_store_mid D 41 _ _ D w1.heap.size 0 (υ aD SX).toArray D D (R1.th w1) cn (iq _ _ (kC F.out)) ?_
     refine Pl.cutL (BK w w1 M S aD SX) (BK.mk0 HL1.out HB1.out F.out HMS.out) ?_;intro Y2 H;have g:=hid H;clear H)
  | (go_at_call 24;refine T.out.mono ?_;rintro e w1 ⟨vl,X,SX,er,acc,rfl,hE,hO,I,i⟩
     have hE2:X=aD/\acc=[]/\er=r:=by
      rcases hE with⟨h0,h1,h2,h3|h3⟩|⟨_,h1,_⟩
      ·exact⟨h1,h2,h3.trans V.out.symm⟩
      ·exact absurd h3.1 HR.out
      ·exact absurd h1 HR.out
     obtain⟨rfl,rfl,rfl⟩:=hE2;obtain⟨al,cl,el⟩:=vT hO;rw[show ([]:List Dd).length=0 from D] at el;subst el;have F:=hid I;have HL1:=hid (bw HQ.out i);have HB1:=hid (HB.out.kept i);have HMS:=hid (HS.out.kept (bw HQ.out i));clear hE hO I i)
  | (refine wpList_load_mid D 41 _ D w.heap.size 0 D (υ M S) _ HB.out.c underlying41 D cn ?_))
 go_ret;exact⟨D,Z.out⟩
theorem Wt.trace_b(M:Mach)(S:Sl)(v:π)(l:List Inp)(n:Int)(w:u)(I:AF w)(H:cf w S M)(hz:∀ j,j<5->(M.byt j).length<=9223372036854775807)(a:M.ok)(k:bP w.heap.size w v l)(p:∀ x∈l,0<=x.d/\x.d<=255)(L:-9223372036854775808<=n/\n<=9223372036854775807)(hr:jz M l n=0)(q:19000<M.b.f):Δ prog 6 #[ac (υ M S).toArray,v,J Q n] w λe w'=>e=μ (ν Γ)/\Below w.heap.size w w':=by
 have hd:decide (19000<M.b.f)=Γ:=aO q;have o:Below w.heap.size w (w.alloc (χ (υ M S).toArray 41)):=stA (aR w) _;have HB:=hid (Bx.new w (υ M S) 41 (b:=w.heap.size) D);have N:=hid (Wc.trace M S v l n _ (I.kept o) (H.kept o) hz a ((k.kept o).mono o.size) p L);have r:=hid (λ(W:u) (h:bP W.heap.size W v l)=>Wt.badRun M S v l n W H.lens a h L);rw[xD a,hr] at r;have HQ:=hid o;have HF:=hid I;have HS:=hid H;have P:=hid k;clear o I H hz a k p L hr q;go_enter func6,ntmps6;go_wp2_with (first
  | (go_at_call 15;refine(xx M S _ _).mono ?_;rw[hd];rintro e w5 ⟨rfl,s⟩;have R:=hid (bw t.out.low s);clear s)
  | (refine wpList_load_mid D 41 _ D w.heap.size 0 D (υ M S) _ t.out.mb.c underlying41 D cn ?_)
  | (go_at_call 25;have T:=m.out;clear T;refine(Wc.watched _ (HF.out.kept m.out.low)).mono ?_;rintro e w4 ⟨rfl,y⟩;have t:=hid (m.out.kept y);clear y)
  | (go_at_call 10;refine(r.out _ ((P.out.kept g.out.low).mono g.out.low.size)).mono ?_;rintro e w3 ⟨rfl,z⟩;have m:=hid (g.out.kept z);clear z)
  | (refine wpList_load_mid D 41 _ D w.heap.size 0 D (υ M S) _ g.out.mb.c underlying41 D cn ?_)
  | (refine wpList_store_mid D 41 _ _ D w1.heap.size 0 (υ X SX).toArray D D (R1.th w1) cn (iq _ _ (kC B.out)) ?_
     refine Pl.cutL (BK w w1 M S X SX) (BK.mk0 U.out V.out B.out Z.out) ?_;intro Y2 E;have g:=hid E;clear E)
  | (go_at_call 24;refine N.out.mono ?_;rintro e w1 ⟨vl,X,SX,er,acc,rfl,hE,hO,F,i⟩
     obtain⟨al,cl,el⟩:=vT hO;subst el;have B:=hid F;have U:=hid (bw HQ.out i);have V:=hid (HB.out.kept i);have Z:=hid (HS.out.kept (bw HQ.out i));clear hE hO F i)
  | (refine wpList_load_mid D 41 _ D w.heap.size 0 D (υ M S) _ HB.out.c underlying41 D cn ?_))
 go_ret;exact⟨D,R.out⟩
theorem Wt.trace_c(M:Mach)(S:Sl)(v:π)(l:List Inp)(N:Nat)(w:u)(hF:AF w)(hFa:Facts w)(hg:1<w.heap.size/\0<w.heap.size/\2<w.heap.size)(hs:cf w S M)(hsz:∀ j,j<5->(M.byt j).length<=140737488355328)(hok:M.ok)(hin:bP w.heap.size w v l)(hdn:∀ x∈l,0<=x.d/\x.d<=255)(hr:jz M l N=0)(hf:M.fit)(hR:InR M l)(h19:M.b.f<=19000)(hN:N<=500/\M.clock+N<=200000):Δ prog 6 #[ac (υ M S).toArray,v,J Q N] w λe w'=>e=μ (ν Γ)/\Below w.heap.size w w':=by
 have hd:decide (19000<M.b.f)=ξ:=aG (by omega);have hq:Below w.heap.size w (w.alloc (χ (υ M S).toArray 41)):=stA (aR w) _;have hn:-9223372036854775808<=(N:Int)/\(N:Int)<=9223372036854775807:=by omega
 have HB:=hid (Bx.new w (υ M S) 41 (b:=w.heap.size) D);have HTR:=hid (Wc.trace M S v l N _ (hF.kept hq) (hs.kept hq) (λj hj=>ax (hsz j hj) (by decide)) hok ((hin.kept hq).mono hq.size) hdn hn);have HBR:=hid (λ(W:u) (h:bP W.heap.size W v l)=>Wt.badRun M S v l N W hs.lens hok h hn);rw[xD hok,hr] at HBR;have HLK:=hid (λ(W:u) (hb:Below w.heap.size w W) (h1:cf W S M)=>Wt.looks M S v l N W h1 hsz (hFa.kept hb) ⟨Θ hg.1 hb.size,Θ hg.2.1 hb.size,Θ hg.2.2 hb.size⟩ ((hin.kept hb).mono hb.size) hf hR h19 hN);have HQ:=hid hq;have HF:=hid hF;have HFA:=hid hFa;have HS:=hid hs;have HIN:=hid hin;have HN:=hid hN;have HRR:=hid hR;have H19:=hid h19;have HRZ:=hid hr;clear hq hF hFa hg hs hsz hok hin hdn hn hr h19 hf hR hN;go_enter func6,ntmps6;go_upto_region 8 with(first
  | (refine wpList_store_mid D 41 _ _ D w7.heap.size 0 (υ (M.aft l N) SE).toArray D D (R1.th w7) cn (iq _ _ (kC HES.out)) ?_
     refine Pl.cutL (λι=>BL w w1 w7 M S (M.aft l N) SX (M.aft l N) SE (κ av ps.length cv) ps ι/\kO ι (κ al acc.length cl) acc.length 4 (lE acc)) ⟨BL.mk0 HY7.out HES.out HRW.out HCP.out,HO7.out.kept (ni (stA (aR w7) _) (ψ _) _ _)⟩ ?_;intro Y8 hY8;have HY8:=hid hY8.1;have HO8:=hid hY8.2;clear hY8)
  | (go_at_call 26;refine(HLK.out _ HY6.out.low HY6.out.ms).mono ?_;rintro e w7 ⟨vps,ps,SE,js,rfl,hW,hps,hrw,hcp,hes,hb7,hft⟩
     obtain⟨av,cv,ev⟩:=hrw.len;subst ev;have HY7:=hid (HY6.out.kept hb7);have HO7:=hid (HO6.out.kept hb7);have HES:=hid hes;have HRW:=hid hrw;have HCP:=hid hcp;have HWY:=hid hW;have HPS:=hid hps;have HFTS:=hid hft;clear hW hps hrw hcp hes hb7 hft)
  | (refine wpList_load_mid D 41 _ D w.heap.size 0 D (υ M S) _ HY6.out.mb.c underlying41 D cn ?_)
  | (go_at_call 15;refine(xx M S _ _).mono ?_;rw[hd];rintro e w6 ⟨rfl,hb6⟩;have HY6:=hid (HY4.out.kept hb6);have HO6:=hid (HO4.out.kept hb6);clear hb6)
  | (refine wpList_load_mid D 41 _ D w.heap.size 0 D (υ M S) _ HY4.out.mb.c underlying41 D cn ?_)
  | (go_at_call 25;have hy3:=HY3.out;clear hy3;refine(Wc.watched _ (HF.out.kept HY3.out.low)).mono ?_;rintro e w4 ⟨rfl,hb4⟩;have HY4:=hid (HY3.out.kept hb4);have HO4:=hid (HO3.out.kept hb4);clear hb4)
  | (go_at_call 10;refine(HBR.out _ ((HIN.out.kept HY2.out.low).mono HY2.out.low.size)).mono ?_;rintro e w3 ⟨rfl,hb3⟩;have HY3:=hid (HY2.out.kept hb3);have HO3:=hid (HO2.out.kept hb3);clear hb3)
  | (refine wpList_load_mid D 41 _ D w.heap.size 0 D (υ M S) _ HY2.out.mb.c underlying41 D cn ?_)
  | (refine wpList_store_mid D 41 _ _ D w1.heap.size 0 (υ (M.aft l N) SX).toArray D D (R1.th w1) cn (iq _ _ (kC HS1.out)) ?_
     refine Pl.cutL (λι=>BK w w1 M S (M.aft l N) SX ι/\kO ι (κ al acc.length cl) acc.length 4 (lE acc)) ⟨BK.mk0 HL1.out HB1.out HS1.out HMS.out,HO1.out.kept (ni (stA (aR w1) _) (ψ _) _ _)⟩ ?_;intro Y2 hY2;have HY2:=hid hY2.1;have HO2:=hid hY2.2;clear hY2)
  | (go_at_call 24;refine HTR.out.mono ?_;rintro e w1 ⟨vl,X,SX,er,acc,rfl,hE,hO,hS1,hb1⟩
     have hE2:er=0/\X=M.aft l N /\ ∃ js:List Nat,Way M l N js N/\acc=(js.map (λi=>(M.aft l i).due)).flatten:=by
      rcases hE with⟨h0,h1,h2,h3|h3⟩|⟨h0,_,_,_,h1,h2⟩
      ·exact absurd (h3.trans HRZ.out) h0
      ·exact absurd h3.2 (by have:=H19.out;omega)
      ·rw[bR] at h1 h2
       exact⟨h0,h1,h2⟩
     obtain⟨rfl,rfl,hwa⟩:=hE2;obtain⟨al,cl,el⟩:=vT hO;subst el;have HWA:=hid hwa;have HO1:=hid (vU hO);have HS1:=hid hS1;have HL1:=hid (bw HQ.out hb1);have HB1:=hid (HB.out.kept hb1);have HMS:=hid (HS.out.kept (bw HQ.out hb1));clear hE hO hS1 hb1 hwa)
  | (refine wpList_load_mid D 41 _ D w.heap.size 0 D (υ M S) _ HB.out.c underlying41 D cn ?_))
 have hlen:js.length=ps.length:=by have h:=congrArg List.length HPS.out;rw[bf,bf] at h;exact h.symm
 have hl5:ps.length<=500:=by have:=(HWY.out.le HRR.out).2;have:=HN.out.1;omega
 have HAC:Hid (pC M l N ps.length=acc):=hid (by obtain⟨js',h1,h2⟩:=HWA.out;rw[h2,<- hlen];exact zxL HWY.out h1);obtain⟨E,hE⟩:∃ E,E=M.aft l N:=⟨_,D⟩
 rw[<- hE] at HY8;have HRF:Hid (RF Y8):=hid ⟨HF.out.kept HY8.out.toBK.low,HFA.out.kept HY8.out.toBK.low⟩;have HL5:=hid hl5;clear HB HTR HBR HLK HQ HS1 HL1 HB1 HMS HY2 HY3 HY4 HY6 HY7 HES HRW HCP HO1 HO2 HO3 HO4 HO6 HO7 HWA hE hlen hd hl5 HF HFA HS HIN;go_wp2;go_loopw [13,61] (λv13 v61 wr=>∃ k:Nat,k<=ps.length/\v61=J Q k/\Below Y8.heap.size Y8 wr/\wr.ownsRow Y8.heap.size 78 4 v13 (pC M l N k).length (lE (pC M l N k))) (λ_ i _=>ps.length-(intOf i).toNat)
 case atStart=>exact⟨0,bh _,D,aR Y8,D,aj ⟨D,D⟩⟩
 case round =>
  obtain⟨k,hk,rfl,hbl,n⟩:=hrel;by_cases hlt:k<ps.length
  ·have hlt2:(k:Int)<ps.length:=by omega
   have hk0:(0:Int)<=k:=by omega
   have hks:(k:Int)<1000:=by have:=HL5.out;omega
   obtain⟨SZ,hx⟩:=zvj HWY.out HPS.out hlt;have s:=bu hx;obtain⟨Z,hZ⟩:∃ Z,Z=M.aft l (wj M l N k):=⟨_,D⟩
   rw[<- hZ] at hx s;have hSC:=zmE M l N k;rw[<- hZ] at hSC;have hln:=zkR M l N k;obtain⟨ζ,hA⟩:∃ ζ,ζ=pC M l N k:=⟨_,D⟩
   rw[<- hA] at n hSC hln;have HSC:=hid hSC;have HLA:Hid (ζ.length<=1000):=hid (by have:=HL5.out;omega);have hY:=HY8.out.kept (Y':=wr) hbl;obtain⟨a13,c13,e13⟩:=vT n;subst e13;obtain⟨g1,o1,c1,q1,z1,r1⟩:=hY.row.range hlt (zpa ps k (Z,SZ) hx);cases q1;have HRN:Hid (wr.rangeAt g1 (o1+k*75) (υ Z SZ)):=hid r1;have HSZ:Hid (cf Y8 SZ Z):=hid (HY8.out.cp _ s);have HZS:=hid (hY.cp _ s);have HFZ:Hid Z.fit:=hid (HFTS.out _ s);have HKK:=hid hlt;have HW0:=hid (WS.mk0 (Z:=Z) (SZ:=SZ) hbl n);clear hY hx s r1 hZ hk hlt hbl n hSC hln hA;go_upto_region 12 with(first
    | (refine wpList_load_mid D 41 _ D g1 (o1+k*75) (by rfl) (υ Z SZ) _ HRN.out underlying41 D cn ?_)
    | (refine wpList_store_mid D 41 _ _ D wr.heap.size 0 (υ Z SZ).toArray D D (R1.th wr) cn (iq _ _ (kC HZS.out)) ?_
       refine Pl.cutL (WS Y8 wr Z SZ (κ a13 ζ.length c13) ζ) HW0.out ?_;intro V hV;have HV:=hid hV;clear hV))
   clear HRN HZS HW0;simp only[ag];go_cut [91] from 65 to 91 (λv91 ι=>v91=ν Z.mdue/\WS Y8 wr Z SZ (κ a13 ζ.length c13) ζ ι)
   case first =>
    have x72:=HV.out.bx.at 72 (J Q Z.clock) D;have x73:=HV.out.bx.at 73 (J Q Z.mready) D;have x14:=HV.out.bx.at 14 (ν Z.main.Waits) D;have x13:=HV.out.bx.at 13 (ν Z.main.May) D;have x44:=HV.out.bx.at 44 (ν Z.t.g) D;have x63:=HV.out.bx.at 63 (ν Z.b.g) D;have hz:=HV.out.bx.z;have y:Hid (Z.mdue=(decide (Z.mready<=Z.clock) && (!Z.main.Waits && !(Z.main.May && (Z.t.g || Z.b.g))))):=hid D;obtain⟨wt,hwt⟩:∃ b,b=Z.main.Waits:=⟨_,D⟩
    obtain⟨my,hmy⟩:∃ b,b=Z.main.May:=⟨_,D⟩
    obtain⟨tg,htg⟩:∃ b,b=Z.t.g:=⟨_,D⟩
    obtain⟨bg,hbg⟩:∃ b,b=Z.b.g:=⟨_,D⟩
    rw[<- hwt] at x14 y;rw[<- hmy] at x13 y;rw[<- htg] at x44 y;rw[<- hbg] at x63 y;clear hwt hmy htg hbg;by_cases hr:Z.mready<=Z.clock
    ·have T:decide (Z.mready<=Z.clock)=Γ:=aO hr
     rw[T] at y;clear hr;have hcs:wt=Γ \/ (wt=ξ/\my=ξ) \/ (wt=ξ/\my=Γ/\tg=Γ) \/ (wt=ξ/\my=Γ/\tg=ξ/\bg=Γ) \/ (wt=ξ/\my=Γ/\tg=ξ/\bg=ξ):=by cases wt <;> cases my <;> cases tg <;> cases bg <;> simp
     rcases hcs with rfl|⟨rfl,rfl⟩|⟨rfl,rfl,rfl⟩|⟨rfl,rfl,rfl,rfl⟩|⟨rfl,rfl,rfl,rfl⟩
     all_goals
      go_wp2;go_meet;exact⟨by rw[y.out];rfl,HV.out⟩
    ·have T:decide (Z.mready<=Z.clock)=ξ:=aG hr
     rw[T] at y;clear hr;go_wp2;go_meet;exact⟨by rw[y.out];rfl,HV.out⟩
   case rest =>
    obtain⟨rfl,hY⟩:=hcut;have B:=hid hY;have F:Hid (ζ.length<=1001):=hid (by have:=HLA.out;omega);have HMI:Hid (Z.mdid=if Z.mdue then [⟨Z.clock,ξ,Z.main.PC,cZ Z.mrom Z.main.PC.toNat⟩] else []):=hid D;obtain⟨md,hmd⟩:∃ b,b=Z.mdue:=⟨_,D⟩
    rw[<- hmd] at HMI ⊢;clear hY hmd HV;cases md
    case' true =>
     go_wp2;refine wp_region_held_drew (S:=λw'=>w'.cell? ⟨wr.heap.size,72,G⟩=A (J Q Z.clock)/\w'.cell? ⟨wr.heap.size,8,G⟩=A (J Y Z.main.PC)/\w'.cell? ⟨wr.heap.size,30,G⟩=A SZ.mr) (by kernel_rfl) (B.out.s3) ?_;intro m;refine wpAnyH_take (i:=0) (oi:=⟨A 92,_,_,_,_,G⟩) (v:=?_) D (by kernel_rfl) (by kernel_rfl) (by kernel_rfl) (λ_ _ _ h=>h) (aj ⟨by rfl,?_⟩) m ?_;rotate_left 1;focus (intro w a;clear a;go_simp;try (with_reducible rfl))
     simp only[ag,xA,xB,xC];refine wpAnyH_take (i:=1) (oi:=⟨A 93,_,_,_,_,G⟩) (v:=?_) D (by kernel_rfl) (by kernel_rfl) (by kernel_rfl) (λ_ _ _ h=>h) (aj ⟨by rfl,?_⟩) m ?_;rotate_left 1;focus (intro w a;clear a;go_simp;try (with_reducible rfl))
     simp only[ag,xA,xB,xC];refine wpAnyH_take (i:=3) (oi:=⟨A 95,_,_,_,_,G⟩) (v:=?_) D (by kernel_rfl) (by kernel_rfl) (by kernel_rfl) (λ_ _ _ h=>h) (aj ⟨by rfl,?_⟩) m ?_;rotate_left 1;focus (intro w a;clear a;go_simp;try (with_reducible rfl))
     simp only[ag,xA,xB,xC];refine wpAnyH_take (i:=4) (oi:=⟨A 96,_,_,_,_,G⟩) (v:=?_) D (by kernel_rfl) (by kernel_rfl) (by kernel_rfl) (λ_ _ _ h=>h) (aj ⟨by rfl,?_⟩) m ?_;rotate_left 1;focus (intro w a;clear a;go_simp;try (with_reducible rfl))
     simp only[ag,xA,xB,xC];refine wpAnyH_take (i:=6) (oi:=⟨A 98,_,_,_,_,G⟩) (v:=?_) D (by kernel_rfl) (by kernel_rfl) (by kernel_rfl) (λ_ _ _ h=>h) (aj ⟨by rfl,?_⟩) m ?_;rotate_left 1;focus (intro w a;clear a;go_simp;try (with_reducible rfl))
     simp only[ag,xA,xB,xC];refine wpAnyH_take (i:=8) (oi:=⟨A 100,_,_,_,_,G⟩) (v:=?_) D (by kernel_rfl) (by kernel_rfl) (by kernel_rfl) (λ_ _ _ h=>h) (aj ⟨by rfl,?_⟩) m ?_;rotate_left 1;focus (intro w a;clear a;go_simp;try (with_reducible rfl))
     simp only[ag,xA,xB,xC];refine wpAnyH_take (i:=9) (oi:=⟨A 101,_,_,_,_,G⟩) (v:=?_) D (by kernel_rfl) (by kernel_rfl) (by kernel_rfl) (λ_ _ _ h=>h) (aj ⟨by rfl,?_⟩) m ?_;rotate_left 1;focus (intro w a;clear a;go_simp;try (with_reducible rfl))
     simp only[ag,xA,xB,xC];refine nU 2 (λ_ a=>a.1) m ?_;refine nU 5 (λ_ a=>a.2.1) m ?_;refine nU 7 (λ_ a=>a.2.2) m ?_;refine nU 10 (λ_ a=>a.2.1) m ?_;refine gy 11 (λK H=>?_);go_simp;go_at_call 27
     refine(Wt.text SZ.mr Z.mrom Z.main.PC HFZ.out.main.2.2 _ (HSZ.out.kept B.out.low.drew 0 (by decide)) HFZ.out.mrom (HRF.out.kept B.out.low.drew)).mono ?_;rintro e w2 ⟨rfl,I⟩;have L:=hid (B.out.kept (bw (aR wc).drew I));clear I;try go_wp2_with fail
     refine gL H (L.out.s3) (λ_=>?_);clear H K;clear m;have m:=L.out.s3;refine jW 12 (ac (ib ⟨Z.clock,ξ,Z.main.PC,cZ Z.mrom Z.main.PC.toNat⟩).toArray) D (λw' _=>zE 78 0 2 3 _ _ _ D (J Q Z.clock) (J Y Z.main.PC) (.string (aT (cZ Z.mrom Z.main.PC.toNat))) (ac (ib ⟨Z.clock,ξ,Z.main.PC,cZ Z.mrom Z.main.PC.toNat⟩).toArray) D D D (zqz _ _ _ w')) m ?_;refine gy 13 (λK H=>?_);refine xu D 70 1 0 _ D (ac (ib ⟨Z.clock,ξ,Z.main.PC,cZ Z.mrom Z.main.PC.toNat⟩).toArray) D (zfX ⟨Z.clock,ξ,Z.main.PC,cZ Z.mrom Z.main.PC.toNat⟩ _) ?_;have o:=hid (L.out.kept (stA (aR w2) (χ (ib ⟨Z.clock,ξ,Z.main.PC,cZ Z.mrom Z.main.PC.toNat⟩).toArray 78)));refine gL H (o.out.s3) (λ_=>?_);clear H K;clear m;have m:=o.out.s3;refine gy 14 (λK H=>?_);obtain⟨i1,hj0,hy0,hy1,hy2⟩:=info_parts A8;refine step_append_lies _ (by rfl) (.tmp 92) (.tmp 105) 70 (by rfl) Y8.heap.size 78 i1 _ 4 32 underlying70 hj0 hy0 hy1 hy2 D (by omega) (κ a13 ζ.length c13) ζ.length (lE ζ) D o.out.own ⟨w2.heap.size,0,G⟩ 1 1 (ib ⟨Z.clock,ξ,Z.main.PC,cZ Z.mrom Z.main.PC.toNat⟩) D D (xw _ w2) (A9 _) (by omega) (by unfold maxLen;have:=F.out;omega) (by have:=F.out;omega) o.out.low.size _ D ?_
     intro g1 U W3 p hg1 P hz1;have r:=hid (o.out.grown (v':=κ (A ⟨g1,0,G⟩) (ζ.length+1) U) (acc':=ζ++[⟨Z.clock,ξ,Z.main.PC,cZ Z.mrom Z.main.PC.toNat⟩]) (by rw[zpc,az];exact p) hg1 (λk e=>by cases e;exact P));clear p hg1 P hz1;refine gL H (r.out.s3) (λ_=>?_);clear H K;clear m;have m:=r.out.s3;refine wpAnyH_take (i:=15) (oi:=⟨A 13,_,_,_,_,G⟩) (v:=?_) D (by kernel_rfl) (by kernel_rfl) (by kernel_rfl) (λ_ _ _ h=>h) (aj ⟨by rfl,?_⟩) m ?_;rotate_left 1;focus (intro w a;clear a;go_simp;try (with_reducible rfl))
     simp only[ag,xA,xB,xC];refine wpAnyH_done (by kernel_rfl) ?_ _;go_simp;have q:Hid (WS Y8 wr Z SZ (κ (A ⟨g1,0,G⟩) (ζ.length+1) U) (ζ++Z.mdid) W3):=hid (by have e:Z.mdid=[⟨Z.clock,ξ,Z.main.PC,cZ Z.mrom Z.main.PC.toNat⟩]:=HMI.out;rw[e];exact r.out);clear r o L m B F HMI
    case' false =>
     have q:Hid (WS Y8 wr Z SZ (κ a13 ζ.length c13) (ζ++Z.mdid) wc):=hid (by have e:Z.mdid=[]:=HMI.out;rw[e,cH];exact B.out);clear B F HMI
    all_goals
     go_upto_region 14 with fail
     go_cut [13,132] from 107 to 132 (λv13 v132 ι=>v132=ν Z.adue/\WS Y8 wr Z SZ v13 (ζ++Z.mdid) ι)
     case first =>
      have x68:=q.out.bx.at 68 (ν Z.held) D;have x71:=q.out.bx.at 71 (ν Z.rung) D;have x72:=q.out.bx.at 72 (J Q Z.clock) D;have x74:=q.out.bx.at 74 (J Q Z.aready) D;have x29:=q.out.bx.at 29 (ν Z.aux.Waits) D;have x28:=q.out.bx.at 28 (ν Z.aux.May) D;have hz:=q.out.bx.z;have R:Hid (Z.adue=(!Z.held && decide (Z.aready<=Z.clock) && (!Z.aux.Waits && !(Z.aux.May && Z.rung)))):=hid D;obtain⟨hd,hhd⟩:∃ b,b=Z.held:=⟨_,D⟩
      obtain⟨wt,hwt⟩:∃ b,b=Z.aux.Waits:=⟨_,D⟩
      obtain⟨my,hmy⟩:∃ b,b=Z.aux.May:=⟨_,D⟩
      obtain⟨rg,hrg⟩:∃ b,b=Z.rung:=⟨_,D⟩
      rw[<- hhd] at x68 R;rw[<- hwt] at x29 R;rw[<- hmy] at x28 R;rw[<- hrg] at x71 R;clear hhd hwt hmy hrg;by_cases hr:Z.aready<=Z.clock
      ·have T:decide (Z.aready<=Z.clock)=Γ:=aO hr
       rw[T] at R;clear hr;have hcs:hd=Γ \/ (hd=ξ/\wt=Γ) \/ (hd=ξ/\wt=ξ/\my=ξ) \/ (hd=ξ/\wt=ξ/\my=Γ/\rg=Γ) \/ (hd=ξ/\wt=ξ/\my=Γ/\rg=ξ):=by cases hd <;> cases wt <;> cases my <;> cases rg <;> simp
       rcases hcs with rfl|⟨rfl,rfl⟩|⟨rfl,rfl,rfl⟩|⟨rfl,rfl,rfl,rfl⟩|⟨rfl,rfl,rfl,rfl⟩
       all_goals
        go_wp2;go_meet;exact⟨by rw[R.out];rfl,q.out⟩
      ·have T:decide (Z.aready<=Z.clock)=ξ:=aG hr
       rw[T] at R;clear hr;cases hd;all_goals
        go_wp2;go_meet;exact⟨by rw[R.out];rfl,q.out⟩
     case rest =>
      obtain⟨rfl,hY⟩:=hcut;have B:=hid hY;have F:Hid ((ζ++Z.mdid).length<=1001):=hid (by have h1:=zxM Z;rw[az];have:=HLA.out;omega);obtain⟨Bq,hBq⟩:∃ Bq,Bq=ζ++Z.mdid:=⟨_,D⟩
      rw[<- hBq] at B F;have HBQ:=hid hBq;clear hBq;have HAI:Hid (Z.adid=if Z.adue then [⟨Z.clock,Γ,Z.aux.PC,cZ Z.arom Z.aux.PC.toNat⟩] else []):=hid D;obtain⟨ad,had⟩:∃ b,b=Z.adue:=⟨_,D⟩
      rw[<- had] at HAI ⊢;clear hY had q;cases ad
      ·have HE0:Hid (pC M l N (k+1)=Bq):=hid (by rw[HSC.out,HBQ.out];show ζ++(Z.mdid++Z.adid)=_;have e:Z.adid=[]:=HAI.out;rw[e,cH])
       go_wp2;exact⟨⟨k+1,HKK.out,by simp,B.out.low,by rw[HE0.out];exact B.out.own⟩,by have:=HKK.out;simp[intOf];omega⟩
      ·have HE0:Hid (pC M l N (k+1)=Bq++[⟨Z.clock,Γ,Z.aux.PC,cZ Z.arom Z.aux.PC.toNat⟩]):=hid (by rw[HSC.out,HBQ.out];show ζ++(Z.mdid++Z.adid)=_;have e:Z.adid=[⟨Z.clock,Γ,Z.aux.PC,cZ Z.arom Z.aux.PC.toNat⟩]:=HAI.out;rw[e,bK])
       go_wp2;refine wp_region_held_drew (S:=λw'=>w'.cell? ⟨wr.heap.size,72,G⟩=A (J Q Z.clock)/\w'.cell? ⟨wr.heap.size,23,G⟩=A (J Y Z.aux.PC)/\w'.cell? ⟨wr.heap.size,31,G⟩=A SZ.ar) (by kernel_rfl) (B.out.s5) ?_;intro m;refine wpAnyH_take (i:=0) (oi:=⟨A 133,_,_,_,_,G⟩) (v:=?_) D (by kernel_rfl) (by kernel_rfl) (by kernel_rfl) (λ_ _ _ h=>h) (aj ⟨by rfl,?_⟩) m ?_;rotate_left 1;focus (intro w a;clear a;go_simp;try (with_reducible rfl))
       simp only[ag,xA,xB,xC];refine wpAnyH_take (i:=1) (oi:=⟨A 134,_,_,_,_,G⟩) (v:=?_) D (by kernel_rfl) (by kernel_rfl) (by kernel_rfl) (λ_ _ _ h=>h) (aj ⟨by rfl,?_⟩) m ?_;rotate_left 1;focus (intro w a;clear a;go_simp;try (with_reducible rfl))
       simp only[ag,xA,xB,xC];refine wpAnyH_take (i:=3) (oi:=⟨A 136,_,_,_,_,G⟩) (v:=?_) D (by kernel_rfl) (by kernel_rfl) (by kernel_rfl) (λ_ _ _ h=>h) (aj ⟨by rfl,?_⟩) m ?_;rotate_left 1;focus (intro w a;clear a;go_simp;try (with_reducible rfl))
       simp only[ag,xA,xB,xC];refine wpAnyH_take (i:=4) (oi:=⟨A 137,_,_,_,_,G⟩) (v:=?_) D (by kernel_rfl) (by kernel_rfl) (by kernel_rfl) (λ_ _ _ h=>h) (aj ⟨by rfl,?_⟩) m ?_;rotate_left 1;focus (intro w a;clear a;go_simp;try (with_reducible rfl))
       simp only[ag,xA,xB,xC];refine wpAnyH_take (i:=6) (oi:=⟨A 139,_,_,_,_,G⟩) (v:=?_) D (by kernel_rfl) (by kernel_rfl) (by kernel_rfl) (λ_ _ _ h=>h) (aj ⟨by rfl,?_⟩) m ?_;rotate_left 1;focus (intro w a;clear a;go_simp;try (with_reducible rfl))
       simp only[ag,xA,xB,xC];refine wpAnyH_take (i:=8) (oi:=⟨A 141,_,_,_,_,G⟩) (v:=?_) D (by kernel_rfl) (by kernel_rfl) (by kernel_rfl) (λ_ _ _ h=>h) (aj ⟨by rfl,?_⟩) m ?_;rotate_left 1;focus (intro w a;clear a;go_simp;try (with_reducible rfl))
       simp only[ag,xA,xB,xC];refine wpAnyH_take (i:=9) (oi:=⟨A 142,_,_,_,_,G⟩) (v:=?_) D (by kernel_rfl) (by kernel_rfl) (by kernel_rfl) (λ_ _ _ h=>h) (aj ⟨by rfl,?_⟩) m ?_;rotate_left 1;focus (intro w a;clear a;go_simp;try (with_reducible rfl))
       simp only[ag,xA,xB,xC];refine nU 2 (λ_ a=>a.1) m ?_;refine nU 5 (λ_ a=>a.2.1) m ?_;refine nU 7 (λ_ a=>a.2.2) m ?_;refine nU 10 (λ_ a=>a.2.1) m ?_;refine gy 11 (λK H=>?_);go_simp;go_at_call 27
       refine(Wt.text SZ.ar Z.arom Z.aux.PC HFZ.out.aux.2.2 _ (HSZ.out.kept B.out.low.drew 1 (by decide)) HFZ.out.arom (HRF.out.kept B.out.low.drew)).mono ?_;rintro e w2 ⟨rfl,I⟩;have L:=hid (B.out.kept (bw (aR wc).drew I));clear I;try go_wp2_with fail
       refine gL H (L.out.s5) (λ_=>?_);clear H K;clear m;have m:=L.out.s5;refine jW 12 (ac (ib ⟨Z.clock,Γ,Z.aux.PC,cZ Z.arom Z.aux.PC.toNat⟩).toArray) D (λw' _=>zgW 78 0 1 2 3 _ _ _ _ D (J Q Z.clock) (ν Γ) (J Y Z.aux.PC) (.string (aT (cZ Z.arom Z.aux.PC.toNat))) (ac (ib ⟨Z.clock,Γ,Z.aux.PC,cZ Z.arom Z.aux.PC.toNat⟩).toArray) D D D D (zqA _ _ _ w')) m ?_;refine gy 13 (λK H=>?_);refine xu D 70 1 0 _ D (ac (ib ⟨Z.clock,Γ,Z.aux.PC,cZ Z.arom Z.aux.PC.toNat⟩).toArray) D (zfX ⟨Z.clock,Γ,Z.aux.PC,cZ Z.arom Z.aux.PC.toNat⟩ _) ?_;have o:=hid (L.out.kept (stA (aR w2) (χ (ib ⟨Z.clock,Γ,Z.aux.PC,cZ Z.arom Z.aux.PC.toNat⟩).toArray 78)));refine gL H (o.out.s5) (λ_=>?_);clear H K;clear m;have m:=o.out.s5;refine gy 14 (λK H=>?_);obtain⟨i1,hj0,hy0,hy1,hy2⟩:=info_parts A8;refine step_append_lies _ (by rfl) (.tmp 133) (.tmp 146) 70 (by rfl) Y8.heap.size 78 i1 _ 4 32 underlying70 hj0 hy0 hy1 hy2 D (by omega) u13 Bq.length (lE Bq) D o.out.own ⟨w2.heap.size,0,G⟩ 1 1 (ib ⟨Z.clock,Γ,Z.aux.PC,cZ Z.arom Z.aux.PC.toNat⟩) D D (xw _ w2) (A9 _) (by omega) (by unfold maxLen;have:=F.out;omega) (by have:=F.out;omega) o.out.low.size _ D ?_
       intro g1 U W3 p hg1 P hz1;have r:=hid (o.out.grown (v':=κ (A ⟨g1,0,G⟩) (Bq.length+1) U) (acc':=Bq++[⟨Z.clock,Γ,Z.aux.PC,cZ Z.arom Z.aux.PC.toNat⟩]) (by rw[zpc,az];exact p) hg1 (λk e=>by cases e;exact P));clear p hg1 P hz1;refine gL H (r.out.s5) (λ_=>?_);clear H K;clear m;have m:=r.out.s5;refine wpAnyH_take (i:=15) (oi:=⟨A 13,_,_,_,_,G⟩) (v:=?_) D (by kernel_rfl) (by kernel_rfl) (by kernel_rfl) (λ_ _ _ h=>h) (aj ⟨by rfl,?_⟩) m ?_;rotate_left 1;focus (intro w a;clear a;go_simp;try (with_reducible rfl))
       simp only[ag,xA,xB,xC];refine wpAnyH_done (by kernel_rfl) ?_ _;go_simp;go_wp2;exact⟨⟨k+1,HKK.out,by simp,r.out.low,by rw[HE0.out];exact r.out.own⟩,by have:=HKK.out;simp[intOf];omega⟩
  ·have hke:k=ps.length:=by omega
   subst hke;have hnl:¬ (ps.length:Int)<ps.length:=by omega
   rw[HAC.out] at n;obtain⟨a13,c13,e13⟩:=vT n;subst e13;have HRO:=hid (vU n);have B:=hid (HY8.out.kept (Y':=wr) hbl);have HO9:=hid (HO8.out.kept hbl);have HAL:Hid (acc.length<=1000000):=hid (by rw[<- HAC.out];have:=zkR M l N ps.length;have:=HL5.out;omega);clear n hbl;go_wp2_with (first
    | (go_at_call 12;refine(rv E SX SE _ HY10.out.toBK.sl HY10.out.es).mono ?_;rintro e w11 ⟨rfl,hb11⟩)
    | (refine Bu.loadG D 41 _ D w1.heap.size 0 D (υ E SX) _ HY10.out.toBK.xb.c underlying41 D cn ?_)
    | (refine Bu.loadG D 41 _ D w7.heap.size 0 D (υ E SE) _ HY10.out.eb.c underlying41 D cn ?_)
    | (go_at_call 28;refine(Wc.sameDid _ _ acc _ HO9.out HRO.out HAL.out).mono ?_;rintro e w10 ⟨rfl,hb10⟩;have HY10:=hid (B.out.kept hb10);clear hb10))
   go_ret;exact⟨D,bw HY10.out.toBK.low hb11⟩
theorem zh6{M:Mach}{l:List Inp}{n:Int}(a:M.ok)(h:jz M l n=0):M.chk=0/\chkIn l M.clock=0/\0<=n/\n<=500/\M.clock+n<=200000:=by
 rw[<- xD a] at h;unfold j6 at h;split at h
 ·rename_i h1
  split at h
  ·rename_i h2
   split at h
   ·rename_i h3
    exact⟨h1,h2,h3⟩
   ·cases h
  ·rename_i h2
   exact absurd h h2
 ·rename_i h1
  exact absurd h h1
theorem zg2:jO:=by
 intro H enc W base v0 m v2 B d1 d2 p0 p1 p2 a k0 t0 k1 t k2 t2;obtain⟨M,S,rfl,c,i,E⟩:=zeP k0 t0;obtain⟨l,g,v,o⟩:=AX k1 t;obtain⟨n,rfl,_,_,w⟩:=mc underlying3 k2 t2;have r:=j9 w;have s:=zeQ t0 a.2.2 i.lens;have h:∀ j,j<5->(M.byt j).length<=9223372036854775807:=λj y=>ax (s j y) (by decide)
 have e:∀ x∈l,0<=x.d/\x.d<=255:=λx z=>(o x z).d
 by_cases k:jz M l n=0
 ·obtain⟨p,hc,a0,a1,a2⟩:=zh6 c k
  obtain⟨N,rfl⟩:=aA a0;by_cases q:19000<M.b.f
  ·exact Wt.trace_b M S m l N W a.1 i h c g e r k q
  ·exact Wt.trace_c M S m l N W a.1 a.2.1 (zou a.2.1) i s c g e k (wA c p) (InR.of hc e) (by omega) ⟨by omega,a2⟩
 ·exact Wt.trace_a M S m l n W a.1 i h c g e r k
theorem watchTrace_holds:Rows.WatchTraceCardSaid:=zg0 zg2
end Go.Proofs.YthghjlinhokimaaGreatDoor
