/-
  For every machine, anything that is pressed, every number and every place the law WatchBreak of the program returns true and leaves its arguments as they were; the listed library variables are as the tied card says.
-/
import Derived.Test.YthghjlinhokimaaGreatDoorZbA
import Derived.Test.YthghjlinhokimaaGreatDoorZbWatchBreak06
import Derived.Test.YthghjlinhokimaaGreatDoorZbWatchBreak05
import Derived.Test.YthghjlinhokimaaGreatDoorZbWatchBreak03
set_option linter.all false
set_option maxRecDepth 100000
set_option maxHeartbeats 6400000
open Go renaming World->u,Value->π,Calls->Δ
open Bool renaming false->ξ,true->Γ
open Go.Act renaming put->ag
open Go.Value renaming int->J,slice->κ,bool->ν
open Go.IntKind renaming i64->Q,u16->Y
open Go.Ending renaming returned->μ
open Go.Obj renaming cells->χ
namespace Go.Proofs.YthghjlinhokimaaGreatDoor
open Go.ChangeShapes Go.WideShapes Go.ChangeAt Go.RowKit Go.Proofs.Tryz
def wj(M:Mach)(l:List Inp)(n:Nat):Nat->Nat
 | 0=>0
 | k+1=>wnx M l n (wj M l n k)
theorem Way.at{M:Mach}{l:List Inp}{n j:Nat}{a:List Nat}(w:Way M l n a j):a=(List.range a.length).map (wj M l n)/\j=wj M l n a.length /\ ∀ i,i<a.length->wj M l n i<n:=by
 induction w with
 | nil=>exact⟨D,D,λi hi=>absurd hi (Nat.not_lt_zero _)⟩
 | @cons a j w c d =>
  obtain⟨h1,h2,h3⟩:=d;have e:(a++[j]).length=a.length+1:=by simp
  refine⟨?_,?_,λi hi=>?_⟩
  ·rw[e,gP,gQ,<- h1,h2];rfl
  ·rw[e,wj,<- h2]
  ·rw[e] at hi
   by_cases b:i=a.length
   ·rw[b,<- h2];exact c
   ·exact h3 i (by omega)
theorem Way.get{M:Mach}{l:List Inp}{n j:Nat}{a:List Nat}(w:Way M l n a j){i:Nat}(hi:i<a.length):a[i]?=some (wj M l n i):=by
 rw[w.at.1,bn,ij hi];rfl
theorem Way.mem{M:Mach}{l:List Inp}{n j:Nat}{a:List Nat}(w:Way M l n a j){i:Nat}(hi:i<a.length):wj M l n i∈a:=bu (w.get hi)
theorem Way.len{M:Mach}{l:List Inp}{n:Nat}{b a:List Nat}(w:Way M l n b n)(w':Way M l n a n):b.length=a.length:=by
 obtain⟨_,h2,h3⟩:=w.at;obtain⟨_,d,c⟩:=w'.at;by_cases h:b.length<a.length
 ·have:=c _ h;omega
 ·by_cases e:a.length<b.length
  ·have:=h3 _ e;omega
  ·omega
theorem Way.pre{M:Mach}{l:List Inp}{n j:Nat}{b a:List Nat}(w:Way M l n b j)(f:j<n)(w':Way M l n a n):b.length<a.length:=by
 obtain⟨_,h2,h3⟩:=w.at;obtain⟨_,c,d⟩:=w'.at;by_cases h:a.length<b.length
 ·have:=h3 _ h;omega
 ·by_cases e:a.length=b.length
  ·rw[e] at c;omega
  ·omega
theorem zvj{M:Mach}{l:List Inp}{n:Nat}{a:List Nat}{ps:List (Mach × Sl)}(w:Way M l n a n)(h:ps.map Prod.fst=a.map (M.aft l)){i:Nat}(hi:i<ps.length):∃ SX,ps[i]?=some (M.aft l (wj M l n i),SX):=by
 have b:ps.length=a.length:=by have:=congrArg List.length h;rwa [bf,bf] at this
 have h1:(ps.map Prod.fst)[i]?=(a.map (M.aft l))[i]?:=by rw[h]
 rw[bn,bn,w.get (by omega),aq hi] at h1;simp only[iG,aZ] at h1;refine⟨ps[i].2,?_⟩;rw[aq hi,<- h1]
theorem Wt.nom(S:Sl)(w:u)(d:cf w S aD):Δ prog 13 #[.agg (υ aD S).toArray] w λe w'=>e=μ (ν Γ)/\Below w.heap.size w w':=by
 have f:=hid (Bx.new w (υ aD S) 41 (b:=w.heap.size) D);have g:=hid d;clear d;go_enter func13,ntmps13;go_wp2_with (first
  | (refine wpList_load_mid D 41 _ D w.heap.size 0 D (υ aD S) _ f.out.c underlying41 D cn ?_)
  | (refine zeN D 41 D _ (zqk _) ?_)
  | (go_at_call 12;refine(rv aD S aP _ (g.out.kept (stA (aR w) _)) (Aa _)).mono ?_;rintro e w4 ⟨rfl,a⟩))
 go_ret;exact⟨D,bw (stA (aR w) _) a⟩
structure BK (w w1 : u) (M : Mach) (S : Sl) (X : Mach) (SX : Sl) (ι : u) : Prop where
 low:Below w.heap.size w ι
 mb:Bx ι w.heap.size (υ M S)
 xb:Bx ι w1.heap.size (υ X SX)
 sl:cf ι SX X
 ms:cf ι S M
section
variable {w w1 w7 ι Y' : u} {M X E : Mach} {S SX SE : Sl} {vps : π} {ps : List (Mach × Sl)}
theorem BK.kept(h:BK w w1 M S X SX ι)(hb:Below ι.heap.size ι Y'):BK w w1 M S X SX Y':=⟨bw h.low hb,h.mb.kept hb,h.xb.kept hb,h.sl.kept hb,h.ms.kept hb⟩
theorem BK.mk0(c:Below w.heap.size w w1)(d:Bx w1 w.heap.size (υ M S))(e:cf w1 SX X)(a:cf w1 S M):BK w w1 M S X SX ((w1.alloc (χ (υ aD aP).toArray 41)).setCells w1.heap.size 0 (υ X SX)):=by
 have h1:=(Bx.new w1 (υ aD aP) 41 (b:=w1.heap.size) D).puts 0 (υ X SX) (by rw[dG,dG];omega);rw[mK _ _ (by rw[dG,dG])] at h1;have hb:Below w1.heap.size w1 ((w1.alloc (χ (υ aD aP).toArray 41)).setCells w1.heap.size 0 (υ X SX)):=ni (stA (aR w1) _) (ψ _) _ _;exact⟨bw c hb,d.kept hb,h1,e.kept hb,a.kept hb⟩
structure BL (w w1 w7 : u) (M : Mach) (S : Sl) (X : Mach) (SX : Sl) (E : Mach) (SE : Sl) (vps : π) (ps : List (Mach × Sl)) (ι : u) : Prop extends BK w w1 M S X SX ι where
 eb:Bx ι w7.heap.size (υ E SE)
 es:cf ι SE E
 row:kO ι vps ps.length 75 (qR ps)
 cp:∀ p∈ps,cf ι p.2 p.1
theorem BL.kept(h:BL w w1 w7 M S X SX E SE vps ps ι)(hb:Below ι.heap.size ι Y'):BL w w1 w7 M S X SX E SE vps ps Y':=⟨h.toBK.kept hb,h.eb.kept hb,h.es.kept hb,h.row.kept hb,λp hp=>(h.cp p hp).kept hb⟩
theorem BL.mk0(h:BK w w1 M S X SX w7)(a:cf w7 SE E)(c:kO w7 vps ps.length 75 (qR ps))(hc:∀ p∈ps,cf w7 p.2 p.1):BL w w1 w7 M S X SX E SE vps ps ((w7.alloc (χ (υ aD aP).toArray 41)).setCells w7.heap.size 0 (υ E SE)):=by
 have h1:=(Bx.new w7 (υ aD aP) 41 (b:=w7.heap.size) D).puts 0 (υ E SE) (by rw[dG,dG];omega);rw[mK _ _ (by rw[dG,dG])] at h1;have hb:Below w7.heap.size w7 ((w7.alloc (χ (υ aD aP).toArray 41)).setCells w7.heap.size 0 (υ E SE)):=ni (stA (aR w7) _) (ψ _) _ _;exact⟨h.kept hb,h1,a.kept hb,c.kept hb,λp hp=>(hc p hp).kept hb⟩
structure BS (w w1 w7 wr : u) (M : Mach) (S : Sl) (X : Mach) (SX : Sl) (E : Mach) (SE : Sl) (vps : π) (ps : List (Mach × Sl)) (Z : Mach) (SZ : Sl) (ι : u) : Prop extends BL w w1 w7 M S X SX E SE vps ps ι where
 zb:Bx ι wr.heap.size (υ Z SZ)
 zs:cf ι SZ Z
theorem BS.mk0{wr:u}{Z:Mach}{SZ:Sl}(h:BL w w1 w7 M S X SX E SE vps ps wr)(a:cf wr SZ Z):BS w w1 w7 wr M S X SX E SE vps ps Z SZ ((wr.alloc (χ (υ aD aP).toArray 41)).setCells wr.heap.size 0 (υ Z SZ)):=by
 have h1:=(Bx.new wr (υ aD aP) 41 (b:=wr.heap.size) D).puts 0 (υ Z SZ) (by rw[dG,dG];omega);rw[mK _ _ (by rw[dG,dG])] at h1;have hb:Below wr.heap.size wr ((wr.alloc (χ (υ aD aP).toArray 41)).setCells wr.heap.size 0 (υ Z SZ)):=ni (stA (aR wr) _) (ψ _) _ _;exact⟨h.kept hb,h1,a.kept hb⟩
end
theorem Wt.break_a(M:Mach)(S:Sl)(v:π)(l:List Inp)(n pc:Int)(w:u)(P:AF w)(N:cf w S M)(hz:∀ j,j<5->(M.byt j).length<=9223372036854775807)(a:M.ok)(k:bP w.heap.size w v l)(s:∀ x∈l,0<=x.d/\x.d<=255)(R:-9223372036854775808<=n/\n<=9223372036854775807)(T:jz M l n≠0):Δ prog 7 #[.agg (υ M S).toArray,v,J Q n,J Y pc] w λe w'=>e=μ (ν Γ)/\Below w.heap.size w w':=by
 have q:Below w.heap.size w (w.alloc (χ (υ M S).toArray 41)):=stA (aR w) _;have HB:=hid (Bx.new w (υ M S) 41 (b:=w.heap.size) D);have U:=hid (Wc.break M S v l n pc _ (P.kept q).shapes (N.kept q) hz a ((k.kept q).mono q.size) s R);have y:=hid (λ(W:u) (h:bP W.heap.size W v l)=>Wt.badRun M S v l n W N.lens a h R);have HQ:=hid q;have HF:=hid P;have HS:=hid N;have V:=hid k;obtain⟨r,f⟩:∃ r,r=jz M l n:=⟨_,D⟩
 rw[xD a,<- f] at y;have hnz:(r != 0)=Γ:=by rw[f];simpa using T
 have hee:(r == r)=Γ:=by simp
 have Z:=hid f;have HR:=hid T;clear q P N hz a k s R f T;go_enter func7,ntmps7;go_wp2_with (first
  | (go_at_call 13;refine(Wt.nom SX _ m.out.sl).mono ?_;rintro e w6 ⟨rfl,z⟩;have HL6:=hid (bw m.out.low z);clear z)
  | (refine Bu.loadG D 41 _ D w1.heap.size 0 D (υ aD SX) _ m.out.xb.c underlying41 D cn ?_)
  | (go_at_call 25;have hy4:=o.out;clear hy4;refine(Wc.watched _ (HF.out.kept o.out.low)).mono ?_;rintro e w5 ⟨rfl,B⟩;have m:=hid (o.out.kept B);clear B)
  | (go_at_call 25;have hy3:=p.out;clear hy3;refine(Wc.watched _ (HF.out.kept p.out.low)).mono ?_;rintro e w4 ⟨rfl,E⟩;have o:=hid (p.out.kept E);clear E)
  | (go_at_call 10;refine(y.out _ ((V.out.kept g.out.low).mono g.out.low.size)).mono ?_;rintro e w3 ⟨rfl,F⟩;have p:=hid (g.out.kept F);clear F)
  | (refine wpList_load_mid D 41 _ D w.heap.size 0 D (υ M S) _ g.out.mb.c underlying41 D cn ?_)
  | (refine wpList_store_mid D 41 _ _ D w1.heap.size 0 (υ aD SX).toArray D D (R1.th w1) cn (iq _ _ (kC H.out)) ?_
     refine Pl.cutL (BK w w1 M S aD SX) (BK.mk0 HL1.out HB1.out H.out HMS.out) ?_;intro Y2 I;have g:=hid I;clear I)
  | (go_at_call 29;refine U.out.mono ?_;rintro e w1 ⟨X,SX,t,er,acc,rfl,hE,L,i⟩
     have hE2:X=aD/\t=ξ/\er=r:=by
      rcases hE with⟨h0,h1,h2,h3|h3⟩|⟨_,h1,_⟩
      ·exact⟨h1,h2,h3.trans Z.out.symm⟩
      ·exact absurd h3.1 HR.out
      ·exact absurd h1 HR.out
     obtain⟨rfl,rfl,rfl⟩:=hE2;have H:=hid L;have HL1:=hid (bw HQ.out i);have HB1:=hid (HB.out.kept i);have HMS:=hid (HS.out.kept (bw HQ.out i));clear hE L i)
  | (refine wpList_load_mid D 41 _ D w.heap.size 0 D (υ M S) _ HB.out.c underlying41 D cn ?_))
 go_ret;exact⟨D,HL6.out⟩
theorem Wt.break_b(M:Mach)(S:Sl)(v:π)(l:List Inp)(n pc:Int)(w:u)(L:AF w)(I:cf w S M)(hz:∀ j,j<5->(M.byt j).length<=9223372036854775807)(a:M.ok)(k:bP w.heap.size w v l)(p:∀ x∈l,0<=x.d/\x.d<=255)(N:-9223372036854775808<=n/\n<=9223372036854775807)(hr:jz M l n=0)(q:19000<M.b.f):Δ prog 7 #[.agg (υ M S).toArray,v,J Q n,J Y pc] w λe w'=>e=μ (ν Γ)/\Below w.heap.size w w':=by
 have hd:decide (19000<M.b.f)=Γ:=aO q;have o:Below w.heap.size w (w.alloc (χ (υ M S).toArray 41)):=stA (aR w) _;have HB:=hid (Bx.new w (υ M S) 41 (b:=w.heap.size) D);have P:=hid (Wc.break M S v l n pc _ (L.kept o).shapes (I.kept o) hz a ((k.kept o).mono o.size) p N);have r:=hid (λ(W:u) (h:bP W.heap.size W v l)=>Wt.badRun M S v l n W I.lens a h N);rw[xD a,hr] at r;have HQ:=hid o;have HF:=hid L;have HS:=hid I;have R:=hid k;clear o L I hz a k p N hr q;go_enter func7,ntmps7;go_wp2_with (first
  | (go_at_call 15;refine(xx M S _ _).mono ?_;rw[hd];rintro e w5 ⟨rfl,s⟩;have T:=hid (bw y.out.low s);clear s)
  | (refine wpList_load_mid D 41 _ D w.heap.size 0 D (υ M S) _ y.out.mb.c underlying41 D cn ?_)
  | (go_at_call 25;have U:=m.out;clear U;refine(Wc.watched _ (HF.out.kept m.out.low)).mono ?_;rintro e w4 ⟨rfl,z⟩;have y:=hid (m.out.kept z);clear z)
  | (go_at_call 10;refine(r.out _ ((R.out.kept g.out.low).mono g.out.low.size)).mono ?_;rintro e w3 ⟨rfl,B⟩;have m:=hid (g.out.kept B);clear B)
  | (refine wpList_load_mid D 41 _ D w.heap.size 0 D (υ M S) _ g.out.mb.c underlying41 D cn ?_)
  | (refine wpList_store_mid D 41 _ _ D w1.heap.size 0 (υ X SX).toArray D D (R1.th w1) cn (iq _ _ (kC E.out)) ?_
     refine Pl.cutL (BK w w1 M S X SX) (BK.mk0 V.out Z.out E.out HMS.out) ?_;intro Y2 F;have g:=hid F;clear F)
  | (go_at_call 29;refine P.out.mono ?_;rintro e w1 ⟨X,SX,t,er,acc,rfl,hE,H,i⟩
     have E:=hid H;have V:=hid (bw HQ.out i);have Z:=hid (HB.out.kept i);have HMS:=hid (HS.out.kept (bw HQ.out i));clear hE H i)
  | (refine wpList_load_mid D 41 _ D w.heap.size 0 D (υ M S) _ HB.out.c underlying41 D cn ?_))
 go_ret;exact⟨D,T.out⟩
structure BJ (M : Mach) (l : List Inp) (N K len : Nat) (t : Bool) (pc : Int) (X : Mach) : Prop where
 no:∀ i,i<K->bk pc (M.aft l (wj M l N i))=ξ
 f:t=ξ->K=len/\X=M.aft l N
 t:t=Γ->K<len/\bk pc X=Γ/\X=M.aft l (wj M l N K)
theorem BJ.of{M:Mach}{l:List Inp}{N:Nat}{n pc:Int}(m:n=N){X:Mach}{t:Bool}{f:Int}{acc:List Dd}(h:vn M l n (bk pc) (λ_=>[]) X t f acc)(o:f=0){c:List Nat}(g:Way M l N c N):∃ K,BJ M l N K c.length t pc X:=by
 subst m;rcases h with⟨p,_⟩|⟨_,_,_,_,q,j,a,k,d,b⟩
 ·exact absurd o p
 ·rw[bR] at a b
  refine⟨q.length,λi hi=>d _ (a.mem hi),λe=>?_,λe=>?_⟩
  ·rcases b with⟨_,rfl,_⟩|⟨h1,_⟩
   ·exact⟨a.len g,k⟩
   ·rw[e] at h1;cases h1
  ·rcases b with⟨h1,_⟩|⟨_,r,hb,_⟩
   ·rw[e] at h1;cases h1
   ·exact⟨a.pre r g,hb,by rw[k,<- a.at.2.1]⟩
theorem Wt.break_c(M:Mach)(S:Sl)(v:π)(l:List Inp)(N:Nat)(pc:Int)(w:u)(hF:AF w)(hFa:Facts w)(hg:1<w.heap.size/\0<w.heap.size/\2<w.heap.size)(hs:cf w S M)(L:∀ j,j<5->(M.byt j).length<=140737488355328)(r:M.ok)(s:bP w.heap.size w v l)(hdn:∀ x∈l,0<=x.d/\x.d<=255)(hr:jz M l N=0)(hf:M.fit)(hR:InR M l)(P:M.b.f<=19000)(hN:N<=500/\M.clock+N<=200000):Δ prog 7 #[.agg (υ M S).toArray,v,J Q N,J Y pc] w λe w'=>e=μ (ν Γ)/\Below w.heap.size w w':=by
 have hd:decide (19000<M.b.f)=ξ:=aG (by omega);have hq:Below w.heap.size w (w.alloc (χ (υ M S).toArray 41)):=stA (aR w) _;have hn:-9223372036854775808<=(N:Int)/\(N:Int)<=9223372036854775807:=by omega
 have HB:=hid (Bx.new w (υ M S) 41 (b:=w.heap.size) D);have HTR:=hid (Wc.break M S v l N pc _ (hF.kept hq).shapes (hs.kept hq) (λj hj=>ax (L j hj) (by decide)) r ((s.kept hq).mono hq.size) hdn hn);have R:=hid (λ(W:u) (h:bP W.heap.size W v l)=>Wt.badRun M S v l N W hs.lens r h hn);rw[xD r,hr] at R;have HLK:=hid (λ(W:u) (hb:Below w.heap.size w W) (h1:cf W S M)=>Wt.looks M S v l N W h1 L (hFa.kept hb) ⟨Θ hg.1 hb.size,Θ hg.2.1 hb.size,Θ hg.2.2 hb.size⟩ ((s.kept hb).mono hb.size) hf hR P hN);have HQ:=hid hq;have HF:=hid hF;have HS:=hid hs;have HIN:=hid s;have HN:=hid hN;have HRR:=hid hR;have H19:=hid P;have HRZ:=hid hr;clear hq hF hFa hg hs L r s hdn hn hr P hf hR hN;go_enter func7,ntmps7;go_upto_region 8 with(first
  | (refine wpList_store_mid D 41 _ _ D w7.heap.size 0 (υ (M.aft l N) SE).toArray D D (R1.th w7) cn (iq _ _ (kC T.out)) ?_
     refine Pl.cutL (BL w w1 w7 M S X SX (M.aft l N) SE (κ av ps.length cv) ps) (BL.mk0 HY7.out T.out HRW.out HCP.out) ?_;intro Y8 hY8;have U:=hid hY8;clear hY8)
  | (go_at_call 26;refine(HLK.out _ n.out.low n.out.ms).mono ?_;rintro e w7 ⟨vps,ps,SE,js,rfl,hW,hps,hrw,hcp,hes,hb7,_⟩
     obtain⟨av,cv,ev⟩:=hrw.len;subst ev;have HY7:=hid (n.out.kept hb7);have T:=hid hes;have HRW:=hid hrw;have HCP:=hid hcp;have HWY:=hid hW;have HPS:=hid hps;clear hW hps hrw hcp hes hb7)
  | (refine wpList_load_mid D 41 _ D w.heap.size 0 D (υ M S) _ n.out.mb.c underlying41 D cn ?_)
  | (go_at_call 15;refine(xx M S _ _).mono ?_;rw[hd];rintro e w6 ⟨rfl,hb6⟩;have n:=hid (HY4.out.kept hb6);clear hb6)
  | (refine wpList_load_mid D 41 _ D w.heap.size 0 D (υ M S) _ HY4.out.mb.c underlying41 D cn ?_)
  | (go_at_call 25;have hy3:=y.out;clear hy3;refine(Wc.watched _ (HF.out.kept y.out.low)).mono ?_;rintro e w4 ⟨rfl,hb4⟩;have HY4:=hid (y.out.kept hb4);clear hb4)
  | (go_at_call 10;refine(R.out _ ((HIN.out.kept o.out.low).mono o.out.low.size)).mono ?_;rintro e w3 ⟨rfl,hb3⟩;have y:=hid (o.out.kept hb3);clear hb3)
  | (refine wpList_load_mid D 41 _ D w.heap.size 0 D (υ M S) _ o.out.mb.c underlying41 D cn ?_)
  | (refine wpList_store_mid D 41 _ _ D w1.heap.size 0 (υ X SX).toArray D D (R1.th w1) cn (iq _ _ (kC HS1.out)) ?_
     refine Pl.cutL (BK w w1 M S X SX) (BK.mk0 HL1.out HB1.out HS1.out HMS.out) ?_;intro Y2 hY2;have o:=hid hY2;clear hY2)
  | (go_at_call 29;refine HTR.out.mono ?_;rintro e w1 ⟨X,SX,t,er,acc,rfl,hE,hS1,B⟩
     have he0:er=0:=by
      rcases hE with⟨h0,h1,h2,h3|h3⟩|⟨h0,_⟩
      ·exact h3.trans HRZ.out
      ·exact absurd h3.2 (by have:=H19.out;omega)
      ·exact h0
     subst he0;have HE:=hid hE;have HS1:=hid hS1;have HL1:=hid (bw HQ.out B);have HB1:=hid (HB.out.kept B);have HMS:=hid (HS.out.kept (bw HQ.out B));clear hE hS1 B)
  | (refine wpList_load_mid D 41 _ D w.heap.size 0 D (υ M S) _ HB.out.c underlying41 D cn ?_))
 obtain⟨K,hJ⟩:=BJ.of D HE.out D HWY.out;have I:js.length=ps.length:=by have h:=congrArg List.length HPS.out;rw[bf,bf] at h;exact h.symm
 have hl5:ps.length<=500:=by have:=(HWY.out.le HRR.out).2;have:=HN.out.1;omega
 rw[I] at hJ;obtain⟨E,hE⟩:∃ E,E=M.aft l N:=⟨_,D⟩
 rw[<- hE] at U;have HEE:=hid hE;have HJ:=hid hJ;clear HB HTR R HLK HQ HS1 HL1 HB1 HMS o y HY4 n HY7 T HRW HCP HE hJ I hE hd;have HL5:=hid hl5;clear hl5;go_wp2;go_loopw [62] (λi wr=>∃ k:Nat,k<=K/\k<=ps.length/\i=J Q k/\BL w w1 w7 M S X SX E SE (κ av ps.length cv) ps wr) (λi _=>ps.length-(intOf i).toNat)
 case atStart=>exact⟨0,bh _,bh _,D,U.out⟩
 case round =>
  obtain⟨k,hk,hkl,rfl,hY⟩:=hrel;have HY:=hid hY;by_cases F:k<ps.length
  ·have hlt2:(k:Int)<ps.length:=by omega
   have hk0:(0:Int)<=k:=by omega
   have hks:(k:Int)<1000:=by have:=HL5.out;omega
   obtain⟨SZ,hx⟩:=zvj HWY.out HPS.out F;have p:=bu hx;obtain⟨Z,hZ⟩:∃ Z,Z=M.aft l (wj M l N k):=⟨_,D⟩
   rw[<- hZ] at hx p;obtain⟨g1,o1,c1,q1,z1,r1⟩:=hY.row.range F (zpa ps k (Z,SZ) hx);cases q1;have HRN:Hid (wr.rangeAt g1 (o1+k*75) (υ Z SZ)):=hid r1;have HZS:=hid (hY.cp _ p);have HZE:=hid hZ;have a:=hid (And.intro hk F);clear hY hx p r1 hZ U hk hkl F;go_upto_region 11 with(first
    | (refine wpList_load_mid D 41 _ D g1 (o1+k*75) (by rfl) (υ Z SZ) _ HRN.out underlying41 D cn ?_)
    | (refine wpList_store_mid D 41 _ _ D wr.heap.size 0 (υ Z SZ).toArray D D (R1.th wr) cn (iq _ _ (kC HZS.out)) ?_
       refine Pl.cutL (BS w w1 w7 wr M S X SX E SE (κ (some ⟨g1,o1,none⟩) ps.length cv) ps Z SZ) (BS.mk0 HY.out HZS.out) ?_;intro V hV;have m:=hid hV;clear hV))
   have x72:=m.out.zb.at 72 (J Q Z.clock) D;have x73:=m.out.zb.at 73 (J Q Z.mready) D;have x8:=m.out.zb.at 8 (J Y Z.main.PC) D;have x14:=m.out.zb.at 14 (ν Z.main.Waits) D;have xz:=m.out.zb.z;have hbk:bk pc Z=(decide (Z.mready<=Z.clock) && decide (Z.main.PC=pc) && !Z.main.Waits):=D;have hgo:bk pc Z=Γ->t=Γ/\X=Z:=λhb=>by
    have hkk:=a.out;by_cases hkK:k<K
    ·have:=HJ.out.no k hkK
     rw[<- HZE.out,hb] at this;cases this
    ·have e:k=K:=by omega
     cases H:t with
     | false=>have:=(HJ.out.f H).1;omega
     | true=>exact⟨D,by rw[(HJ.out.t H).2.2,HZE.out,e]⟩
   have hno:bk pc Z=ξ->k+1<=K:=λhb=>by
    have hkk:=a.out;by_cases hkK:k<K
    ·omega
    ·have e:k=K:=by omega
     cases H:t with
     | false=>have:=(HJ.out.f H).1;omega
     | true =>
      obtain⟨_,h2,h3⟩:=HJ.out.t H;rw[h3,<- e,<- HZE.out,hb] at h2;cases h2
   have HGO:=hid hgo;have HNO:=hid hno;have g:=hid hbk;obtain⟨wt,hwt⟩:∃ b,b=Z.main.Waits:=⟨_,D⟩
   rw[<- hwt] at x14 g;clear hwt hgo hno hbk HY HRN HZS;by_cases h1:Z.mready<=Z.clock
   ·have d1:decide (Z.mready<=Z.clock)=Γ:=aO h1
    by_cases h2:Z.main.PC=pc
    ·have d2:decide (Z.main.PC=pc)=Γ:=aO h2
     rw[d1,d2] at g;have h2':(Z.main.PC == pc)=Γ:=by rw[h2];simp
     clear h1 h2;cases wt
     ·obtain⟨H,hXZ⟩:=HGO.out (by rw[g.out];rfl)
      subst H;have HXZ:=hid hXZ;clear hXZ;go_wp2_with (first
       | (go_at_call 12;refine(rv X SX SZ _ m.out.toBL.toBK.sl (by rw[HXZ.out];exact m.out.zs)).mono ?_;rintro e w9 ⟨rfl,hb9⟩)
       | (refine Bu.loadG D 41 _ D w1.heap.size 0 D (υ X SX) _ m.out.toBL.toBK.xb.c underlying41 D cn ?_)
       | (refine Bu.loadG D 41 _ D wr.heap.size 0 D (υ X SZ) _ (by rw[HXZ.out];exact m.out.zb.c) underlying41 D cn ?_))
      go_ret;exact⟨D,bw m.out.toBL.toBK.low hb9⟩
     ·have q:=hid (HNO.out (by rw[g.out];rfl))
      go_wp2;exact⟨⟨k+1,q.out,by have:=a.out;omega,by simp,m.out.toBL⟩,by have:=a.out;simp[intOf];omega⟩
    ·have d2:decide (Z.main.PC=pc)=ξ:=aG h2
     rw[d1,d2] at g;have h2':(Z.main.PC == pc)=ξ:=by simpa using h2
     have q:=hid (HNO.out (by rw[g.out];rfl));clear h1 h2;go_wp2;exact⟨⟨k+1,q.out,by have:=a.out;omega,by simp,m.out.toBL⟩,by have:=a.out;simp[intOf];omega⟩
   ·have d1:decide (Z.mready<=Z.clock)=ξ:=aG h1
    rw[d1] at g;have q:=hid (HNO.out (by rw[g.out];rfl));clear h1;go_wp2;exact⟨⟨k+1,q.out,by have:=a.out;omega,by simp,m.out.toBL⟩,by have:=a.out;simp[intOf];omega⟩
  ·have hke:k=ps.length:=by omega
   subst hke;have hnl:¬ (ps.length:Int)<ps.length:=by omega
   have htf:t=ξ:=by
    cases H:t with
    | false=>rfl
    | true=>have:=(HJ.out.t H).1;omega
   have HXE:=hid ((HJ.out.f htf).2.trans HEE.out.symm);subst htf;clear hY;go_wp2_with (first
    | (go_at_call 12;refine(rv X SX SE _ HY.out.toBK.sl (by rw[HXE.out];exact HY.out.es)).mono ?_;rintro e w9 ⟨rfl,hb9⟩)
    | (refine Bu.loadG D 41 _ D w1.heap.size 0 D (υ X SX) _ HY.out.toBK.xb.c underlying41 D cn ?_)
    | (refine Bu.loadG D 41 _ D w7.heap.size 0 D (υ X SE) _ (by rw[HXE.out];exact HY.out.eb.c) underlying41 D cn ?_))
   go_ret;exact⟨D,bw HY.out.toBK.low hb9⟩
theorem zhI{M:Mach}{l:List Inp}{n:Int}(a:M.ok)(h:jz M l n=0):M.chk=0/\chkIn l M.clock=0/\0<=n/\n<=500/\M.clock+n<=200000:=by
 rw[<- xD a] at h;unfold j6 at h;split at h
 ·rename_i h1
  split at h
  ·rename_i h2
   split at h
   ·rename_i h3
    exact⟨h1,h2,h3⟩
   ·cases h
  ·rename_i h2
   exact absurd h h2
 ·rename_i h1
  exact absurd h h1
theorem zgZ:jN:=by
 intro H enc W base v0 m v2 v3 E d1 d2 d3 p0 p1 p2 p3 a k0 t0 k1 t k2 t2 v t3;obtain⟨M,S,rfl,c,i,F⟩:=zeP k0 t0;obtain⟨l,g,w,o⟩:=AX k1 t;obtain⟨n,rfl,_,_,y⟩:=mc underlying3 k2 t2;obtain⟨pc,rfl,_,_,I⟩:=mc underlying22 v t3;have r:=j9 y;have s:=zeQ t0 a.2.2 i.lens;have h:∀ j,j<5->(M.byt j).length<=9223372036854775807:=λj z=>ax (s j z) (by decide)
 have e:∀ x∈l,0<=x.d/\x.d<=255:=λx B=>(o x B).d
 by_cases k:jz M l n=0
 ·obtain⟨p,hc,a0,a1,a2⟩:=zhI c k
  obtain⟨N,rfl⟩:=aA a0;by_cases q:19000<M.b.f
  ·exact Wt.break_b M S m l N pc W a.1 i h c g e r k q
  ·exact Wt.break_c M S m l N pc W a.1 a.2.1 (zou a.2.1) i s c g e k (wA c p) (InR.of hc e) (by omega) ⟨by omega,a2⟩
 ·exact Wt.break_a M S m l n pc W a.1 i h c g e r k
theorem watchBreak_holds:Rows.WatchBreakCardSaid:=zgU zgZ
end Go.Proofs.YthghjlinhokimaaGreatDoor
