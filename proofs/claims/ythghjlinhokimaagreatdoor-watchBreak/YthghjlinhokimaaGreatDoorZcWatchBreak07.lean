/-
  For every machine, anything that is pressed, every number and every place the law WatchBreak of the program returns true and leaves its arguments as they were; the listed library variables are as the tied card says.
-/
import Derived.Test.YthghjlinhokimaaGreatDoorZcA
import Derived.Test.YthghjlinhokimaaGreatDoorZcWatchBreak06
import Derived.Test.YthghjlinhokimaaGreatDoorZcWatchBreak05
import Derived.Test.YthghjlinhokimaaGreatDoorZcWatchBreak03
set_option linter.all false
set_option maxRecDepth 100000
set_option maxHeartbeats 6400000
namespace Go.Proofs.YthghjlinhokimaaGreatDoor
open Go.ChangeShapes Go.WideShapes Go.ChangeAt Go.RowKit Go.Proofs.Tryz
def wj(M:Mach)(l:List Inp)(n:Nat):Nat->Nat
 | 0=>0
 | k+1=>wnx M l n (wj M l n k)
theorem Way.at{M:Mach}{l:List Inp}{n j:Nat}{a:List Nat}(w:Way M l n a j):a=(List.range a.length).map (wj M l n)/\j=wj M l n a.length /\ ∀ i,i<a.length->wj M l n i<n:=by
 induction w with
 | nil=>exact⟨U,U,λi hi=>absurd hi (Nat.not_lt_zero _)⟩
 | @cons a j w c d =>
  obtain⟨h1,h2,h3⟩:=d;have e:(a++[j]).length=a.length+1:=by simp
  refine⟨?_,?_,λi hi=>?_⟩
  ·rw[e,eK,fM,<- h1,h2];rfl
  ·rw[e,wj,<- h2]
  ·rw[e] at hi
   by_cases b:i=a.length
   ·rw[b,<- h2];exact c
   ·exact h3 i (by omega)
theorem Way.get{M:Mach}{l:List Inp}{n j:Nat}{a:List Nat}(w:Way M l n a j){i:Nat}(hi:i<a.length):a[i]?=some (wj M l n i):=by
 rw[w.at.1,aX,dV hi];rfl
theorem Way.mem{M:Mach}{l:List Inp}{n j:Nat}{a:List Nat}(w:Way M l n a j){i:Nat}(hi:i<a.length):wj M l n i∈a:=bh (w.get hi)
theorem Way.len{M:Mach}{l:List Inp}{n:Nat}{b a:List Nat}(w:Way M l n b n)(w':Way M l n a n):b.length=a.length:=by
 obtain⟨_,h2,h3⟩:=w.at;obtain⟨_,d,c⟩:=w'.at;by_cases h:b.length<a.length
 ·have:=c _ h;omega
 ·by_cases e:a.length<b.length
  ·have:=h3 _ e;omega
  ·omega
theorem Way.pre{M:Mach}{l:List Inp}{n j:Nat}{b a:List Nat}(w:Way M l n b j)(f:j<n)(w':Way M l n a n):b.length<a.length:=by
 obtain⟨_,h2,h3⟩:=w.at;obtain⟨_,c,d⟩:=w'.at;by_cases h:a.length<b.length
 ·have:=h3 _ h;omega
 ·by_cases e:a.length=b.length
  ·rw[e] at c;omega
  ·omega
theorem zwX{M:Mach}{l:List Inp}{n:Nat}{a:List Nat}{ps:List (Mach × Sl)}(w:Way M l n a n)(h:ps.map Prod.fst=a.map (M.aft l)){i:Nat}(hi:i<ps.length):∃ SX,ps[i]?=some (M.aft l (wj M l n i),SX):=by
 have b:ps.length=a.length:=by have:=congrArg List.length h;rwa [ba,ba] at this
 have h1:(ps.map Prod.fst)[i]?=(a.map (M.aft l))[i]?:=by rw[h]
 rw[aX,aX,w.get (by omega),au hi] at h1;simp only[eJ,aP] at h1;refine⟨ps[i].2,?_⟩;rw[au hi,<- h1]
theorem Wt.nom(S:Sl)(w:World)(d:bM w S aE):Calls prog 13 #[.agg (D aE S).toArray] w λe w'=>e=.returned (.bool true)/\Below w.heap.size w w':=by
 have f:=hid (Bx.new w (D aE S) 41 (b:=w.heap.size) U);have g:=hid d;clear d;go_enter func13,ntmps13;go_wp2_with (first
  | (refine wpList_load_mid U 41 _ U w.heap.size 0 U (D aE S) _ f.out.c underlying41 U bV ?_)
  | (refine zek U 41 U _ (znK _) ?_)
  | (go_at_call 12;refine(oB aE S aM _ (g.out.kept (stA (J w) _)) (tj _)).mono ?_;rintro e w4 ⟨rfl,a⟩))
 go_ret;exact⟨U,bn (stA (J w) _) a⟩
structure BK (w w1 : World) (M : Mach) (S : Sl) (X : Mach) (SX : Sl) (Y : World) : Prop where
 low:Below w.heap.size w Y
 mb:Bx Y w.heap.size (D M S)
 xb:Bx Y w1.heap.size (D X SX)
 sl:bM Y SX X
 ms:bM Y S M
section
variable {w w1 w7 Y Y' : World} {M X E : Mach} {S SX SE : Sl} {vps : Value} {ps : List (Mach × Sl)}
theorem BK.kept(h:BK w w1 M S X SX Y)(hb:Below Y.heap.size Y Y'):BK w w1 M S X SX Y':=⟨bn h.low hb,h.mb.kept hb,h.xb.kept hb,h.sl.kept hb,h.ms.kept hb⟩
theorem BK.mk0(c:Below w.heap.size w w1)(d:Bx w1 w.heap.size (D M S))(e:bM w1 SX X)(a:bM w1 S M):BK w w1 M S X SX ((w1.alloc (.cells (D aE aM).toArray 41)).setCells w1.heap.size 0 (D X SX)):=by
 have h1:=(Bx.new w1 (D aE aM) 41 (b:=w1.heap.size) U).puts 0 (D X SX) (by rw[cy,cy];omega);rw[jJ _ _ (by rw[cy,cy])] at h1;have hb:Below w1.heap.size w1 ((w1.alloc (.cells (D aE aM).toArray 41)).setCells w1.heap.size 0 (D X SX)):=j4 (stA (J w1) _) (ak _) _ _;exact⟨bn c hb,d.kept hb,h1,e.kept hb,a.kept hb⟩
structure BL (w w1 w7 : World) (M : Mach) (S : Sl) (X : Mach) (SX : Sl) (E : Mach) (SE : Sl) (vps : Value) (ps : List (Mach × Sl)) (Y : World) : Prop extends BK w w1 M S X SX Y where
 eb:Bx Y w7.heap.size (D E SE)
 es:bM Y SE E
 row:iJ Y vps ps.length 75 (ml ps)
 cp:∀ p∈ps,bM Y p.2 p.1
theorem BL.kept(h:BL w w1 w7 M S X SX E SE vps ps Y)(hb:Below Y.heap.size Y Y'):BL w w1 w7 M S X SX E SE vps ps Y':=⟨h.toBK.kept hb,h.eb.kept hb,h.es.kept hb,h.row.kept hb,λp hp=>(h.cp p hp).kept hb⟩
theorem BL.mk0(h:BK w w1 M S X SX w7)(a:bM w7 SE E)(c:iJ w7 vps ps.length 75 (ml ps))(hc:∀ p∈ps,bM w7 p.2 p.1):BL w w1 w7 M S X SX E SE vps ps ((w7.alloc (.cells (D aE aM).toArray 41)).setCells w7.heap.size 0 (D E SE)):=by
 have h1:=(Bx.new w7 (D aE aM) 41 (b:=w7.heap.size) U).puts 0 (D E SE) (by rw[cy,cy];omega);rw[jJ _ _ (by rw[cy,cy])] at h1;have hb:Below w7.heap.size w7 ((w7.alloc (.cells (D aE aM).toArray 41)).setCells w7.heap.size 0 (D E SE)):=j4 (stA (J w7) _) (ak _) _ _;exact⟨h.kept hb,h1,a.kept hb,c.kept hb,λp hp=>(hc p hp).kept hb⟩
structure BS (w w1 w7 wr : World) (M : Mach) (S : Sl) (X : Mach) (SX : Sl) (E : Mach) (SE : Sl) (vps : Value) (ps : List (Mach × Sl)) (Z : Mach) (SZ : Sl) (Y : World) : Prop extends BL w w1 w7 M S X SX E SE vps ps Y where
 zb:Bx Y wr.heap.size (D Z SZ)
 zs:bM Y SZ Z
theorem BS.mk0{wr:World}{Z:Mach}{a:Sl}(h:BL w w1 w7 M S X SX E SE vps ps wr)(c:bM wr a Z):BS w w1 w7 wr M S X SX E SE vps ps Z a ((wr.alloc (.cells (D aE aM).toArray 41)).setCells wr.heap.size 0 (D Z a)):=by
 have h1:=(Bx.new wr (D aE aM) 41 (b:=wr.heap.size) U).puts 0 (D Z a) (by rw[cy,cy];omega);rw[jJ _ _ (by rw[cy,cy])] at h1;have hb:Below wr.heap.size wr ((wr.alloc (.cells (D aE aM).toArray 41)).setCells wr.heap.size 0 (D Z a)):=j4 (stA (J wr) _) (ak _) _ _;exact⟨h.kept hb,h1,c.kept hb⟩
end
theorem Wt.break_a(M:Mach)(S:Sl)(v:Value)(l:List Inp)(n pc:Int)(w:World)(N:AF w)(L:bM w S M)(hz:∀ j,j<5->(M.byt j).length<=9223372036854775807)(a:M.ok)(k:bE w.heap.size w v l)(s:∀ x∈l,0<=x.d/\x.d<=255)(P:-9223372036854775808<=n/\n<=9223372036854775807)(R:gQ M l n≠0):Calls prog 7 #[.agg (D M S).toArray,v,.int .i64 n,.int .u16 pc] w λe w'=>e=.returned (.bool true)/\Below w.heap.size w w':=by
 have q:Below w.heap.size w (w.alloc (.cells (D M S).toArray 41)):=stA (J w) _;have HB:=hid (Bx.new w (D M S) 41 (b:=w.heap.size) U);have T:=hid (Wc.break M S v l n pc _ (N.kept q).shapes (L.kept q) hz a ((k.kept q).mono q.size) s P);have u:=hid (λ(W:World) (h:bE W.heap.size W v l)=>Wt.badRun M S v l n W L.lens a h P);have HQ:=hid q;have HF:=hid N;have HS:=hid L;have V:=hid k;obtain⟨r,f⟩:∃ r,r=gQ M l n:=⟨_,U⟩
 rw[zfi a,<- f] at u;have hnz:(r != 0)=true:=by rw[f];simpa using R
 have hee:(r == r)=true:=by simp
 have Y:=hid f;have HR:=hid R;clear q N L hz a k s P f R;go_enter func7,ntmps7;go_wp2_with (first
  | (go_at_call 13;refine(Wt.nom SX _ m.out.sl).mono ?_;rintro e w6 ⟨rfl,y⟩;have Z:=hid (bn m.out.low y);clear y)
  | (refine Bu.loadG U 41 _ U w1.heap.size 0 U (D aE SX) _ m.out.xb.c underlying41 U bV ?_)
  | (go_at_call 25;have hy4:=o.out;clear hy4;refine(Wc.watched _ (HF.out.kept o.out.low)).mono ?_;rintro e w5 ⟨rfl,z⟩;have m:=hid (o.out.kept z);clear z)
  | (go_at_call 25;have hy3:=p.out;clear hy3;refine(Wc.watched _ (HF.out.kept p.out.low)).mono ?_;rintro e w4 ⟨rfl,B⟩;have o:=hid (p.out.kept B);clear B)
  | (go_at_call 10;refine(u.out _ ((V.out.kept g.out.low).mono g.out.low.size)).mono ?_;rintro e w3 ⟨rfl,E⟩;have p:=hid (g.out.kept E);clear E)
  | (refine wpList_load_mid U 41 _ U w.heap.size 0 U (D M S) _ g.out.mb.c underlying41 U bV ?_)
  | (refine wpList_store_mid U 41 _ _ U w1.heap.size 0 (D aE SX).toArray U U (R1.th w1) bV (fG _ _ (jL F.out)) ?_
     refine Pl.cutL (BK w w1 M S aE SX) (BK.mk0 HL1.out HB1.out F.out HMS.out) ?_;intro Y2 H;have g:=hid H;clear H)
  | (go_at_call 29;refine T.out.mono ?_;rintro e w1 ⟨X,SX,t,er,acc,rfl,hE,I,i⟩
     have hE2:X=aE/\t=false/\er=r:=by
      rcases hE with⟨h0,h1,h2,h3|h3⟩|⟨_,h1,_⟩
      ·exact⟨h1,h2,h3.trans Y.out.symm⟩
      ·exact absurd h3.1 HR.out
      ·exact absurd h1 HR.out
     obtain⟨rfl,rfl,rfl⟩:=hE2;have F:=hid I;have HL1:=hid (bn HQ.out i);have HB1:=hid (HB.out.kept i);have HMS:=hid (HS.out.kept (bn HQ.out i));clear hE I i)
  | (refine wpList_load_mid U 41 _ U w.heap.size 0 U (D M S) _ HB.out.c underlying41 U bV ?_))
 go_ret;exact⟨U,Z.out⟩
theorem Wt.break_b(M:Mach)(S:Sl)(v:Value)(l:List Inp)(n pc:Int)(w:World)(I:AF w)(H:bM w S M)(hz:∀ j,j<5->(M.byt j).length<=9223372036854775807)(a:M.ok)(k:bE w.heap.size w v l)(p:∀ x∈l,0<=x.d/\x.d<=255)(L:-9223372036854775808<=n/\n<=9223372036854775807)(hr:gQ M l n=0)(q:19000<M.b.f):Calls prog 7 #[.agg (D M S).toArray,v,.int .i64 n,.int .u16 pc] w λe w'=>e=.returned (.bool true)/\Below w.heap.size w w':=by
 have hd:decide (19000<M.b.f)=true:=aL q;have o:Below w.heap.size w (w.alloc (.cells (D M S).toArray 41)):=stA (J w) _;have HB:=hid (Bx.new w (D M S) 41 (b:=w.heap.size) U);have N:=hid (Wc.break M S v l n pc _ (I.kept o).shapes (H.kept o) hz a ((k.kept o).mono o.size) p L);have r:=hid (λ(W:World) (h:bE W.heap.size W v l)=>Wt.badRun M S v l n W H.lens a h L);rw[zfi a,hr] at r;have HQ:=hid o;have HF:=hid I;have HS:=hid H;have P:=hid k;clear o I H hz a k p L hr q;go_enter func7,ntmps7;go_wp2_with (first
  | (go_at_call 15;refine(zcC M S _ _).mono ?_;rw[hd];rintro e w5 ⟨rfl,s⟩;have R:=hid (bn u.out.low s);clear s)
  | (refine wpList_load_mid U 41 _ U w.heap.size 0 U (D M S) _ u.out.mb.c underlying41 U bV ?_)
  | (go_at_call 25;have T:=m.out;clear T;refine(Wc.watched _ (HF.out.kept m.out.low)).mono ?_;rintro e w4 ⟨rfl,y⟩;have u:=hid (m.out.kept y);clear y)
  | (go_at_call 10;refine(r.out _ ((P.out.kept g.out.low).mono g.out.low.size)).mono ?_;rintro e w3 ⟨rfl,z⟩;have m:=hid (g.out.kept z);clear z)
  | (refine wpList_load_mid U 41 _ U w.heap.size 0 U (D M S) _ g.out.mb.c underlying41 U bV ?_)
  | (refine wpList_store_mid U 41 _ _ U w1.heap.size 0 (D X SX).toArray U U (R1.th w1) bV (fG _ _ (jL B.out)) ?_
     refine Pl.cutL (BK w w1 M S X SX) (BK.mk0 V.out Y.out B.out Z.out) ?_;intro Y2 E;have g:=hid E;clear E)
  | (go_at_call 29;refine N.out.mono ?_;rintro e w1 ⟨X,SX,t,er,acc,rfl,hE,F,i⟩
     have B:=hid F;have V:=hid (bn HQ.out i);have Y:=hid (HB.out.kept i);have Z:=hid (HS.out.kept (bn HQ.out i));clear hE F i)
  | (refine wpList_load_mid U 41 _ U w.heap.size 0 U (D M S) _ HB.out.c underlying41 U bV ?_))
 go_ret;exact⟨U,R.out⟩
structure BJ (M : Mach) (l : List Inp) (N K len : Nat) (t : Bool) (pc : Int) (X : Mach) : Prop where
 no:∀ i,i<K->bk pc (M.aft l (wj M l N i))=false
 f:t=false->K=len/\X=M.aft l N
 t:t=true->K<len/\bk pc X=true/\X=M.aft l (wj M l N K)
theorem BJ.of{M:Mach}{l:List Inp}{N:Nat}{n pc:Int}(m:n=N){X:Mach}{t:Bool}{f:Int}{acc:List Dd}(h:oW M l n (bk pc) (λ_=>[]) X t f acc)(o:f=0){c:List Nat}(g:Way M l N c N):∃ K,BJ M l N K c.length t pc X:=by
 subst m;rcases h with⟨p,_⟩|⟨_,_,_,_,q,j,a,k,d,b⟩
 ·exact absurd o p
 ·rw[bH] at a b
  refine⟨q.length,λi hi=>d _ (a.mem hi),λe=>?_,λe=>?_⟩
  ·rcases b with⟨_,rfl,_⟩|⟨h1,_⟩
   ·exact⟨a.len g,k⟩
   ·rw[e] at h1;cases h1
  ·rcases b with⟨h1,_⟩|⟨_,r,hb,_⟩
   ·rw[e] at h1;cases h1
   ·exact⟨a.pre r g,hb,by rw[k,<- a.at.2.1]⟩
theorem Wt.break_c(M:Mach)(S:Sl)(v:Value)(l:List Inp)(N:Nat)(pc:Int)(w:World)(hF:AF w)(hFa:Facts w)(hg:1<w.heap.size/\0<w.heap.size/\2<w.heap.size)(hs:bM w S M)(I:∀ j,j<5->(M.byt j).length<=140737488355328)(r:M.ok)(s:bE w.heap.size w v l)(hdn:∀ x∈l,0<=x.d/\x.d<=255)(hr:gQ M l N=0)(hf:M.fit)(hR:InR M l)(L:M.b.f<=19000)(hN:N<=500/\M.clock+N<=200000):Calls prog 7 #[.agg (D M S).toArray,v,.int .i64 N,.int .u16 pc] w λe w'=>e=.returned (.bool true)/\Below w.heap.size w w':=by
 have hd:decide (19000<M.b.f)=false:=aF (by omega);have hq:Below w.heap.size w (w.alloc (.cells (D M S).toArray 41)):=stA (J w) _;have hn:-9223372036854775808<=(N:Int)/\(N:Int)<=9223372036854775807:=by omega
 have HB:=hid (Bx.new w (D M S) 41 (b:=w.heap.size) U);have HTR:=hid (Wc.break M S v l N pc _ (hF.kept hq).shapes (hs.kept hq) (λj hj=>ax (I j hj) (by decide)) r ((s.kept hq).mono hq.size) hdn hn);have P:=hid (λ(W:World) (h:bE W.heap.size W v l)=>Wt.badRun M S v l N W hs.lens r h hn);rw[zfi r,hr] at P;have HLK:=hid (λ(W:World) (hb:Below w.heap.size w W) (h1:bM W S M)=>Wt.looks M S v l N W h1 I (hFa.kept hb) ⟨ap hg.1 hb.size,ap hg.2.1 hb.size,ap hg.2.2 hb.size⟩ ((s.kept hb).mono hb.size) hf hR L hN);have HQ:=hid hq;have HF:=hid hF;have HS:=hid hs;have HIN:=hid s;have HN:=hid hN;have HRR:=hid hR;have H19:=hid L;have HRZ:=hid hr;clear hq hF hFa hg hs I r s hdn hn hr L hf hR hN;go_enter func7,ntmps7;go_upto_region 8 with(first
  | (refine wpList_store_mid U 41 _ _ U w7.heap.size 0 (D (M.aft l N) SE).toArray U U (R1.th w7) bV (fG _ _ (jL R.out)) ?_
     refine Pl.cutL (BL w w1 w7 M S X SX (M.aft l N) SE (.slice av ps.length cv) ps) (BL.mk0 HY7.out R.out HRW.out HCP.out) ?_;intro Y8 hY8;have T:=hid hY8;clear hY8)
  | (go_at_call 26;refine(HLK.out _ n.out.low n.out.ms).mono ?_;rintro e w7 ⟨vps,ps,SE,js,rfl,hW,hps,Y,hcp,hes,hb7,_⟩
     obtain⟨av,cv,ev⟩:=Y.len;subst ev;have HY7:=hid (n.out.kept hb7);have R:=hid hes;have HRW:=hid Y;have HCP:=hid hcp;have HWY:=hid hW;have HPS:=hid hps;clear hW hps Y hcp hes hb7)
  | (refine wpList_load_mid U 41 _ U w.heap.size 0 U (D M S) _ n.out.mb.c underlying41 U bV ?_)
  | (go_at_call 15;refine(zcC M S _ _).mono ?_;rw[hd];rintro e w6 ⟨rfl,hb6⟩;have n:=hid (HY4.out.kept hb6);clear hb6)
  | (refine wpList_load_mid U 41 _ U w.heap.size 0 U (D M S) _ HY4.out.mb.c underlying41 U bV ?_)
  | (go_at_call 25;have hy3:=u.out;clear hy3;refine(Wc.watched _ (HF.out.kept u.out.low)).mono ?_;rintro e w4 ⟨rfl,hb4⟩;have HY4:=hid (u.out.kept hb4);clear hb4)
  | (go_at_call 10;refine(P.out _ ((HIN.out.kept o.out.low).mono o.out.low.size)).mono ?_;rintro e w3 ⟨rfl,hb3⟩;have u:=hid (o.out.kept hb3);clear hb3)
  | (refine wpList_load_mid U 41 _ U w.heap.size 0 U (D M S) _ o.out.mb.c underlying41 U bV ?_)
  | (refine wpList_store_mid U 41 _ _ U w1.heap.size 0 (D X SX).toArray U U (R1.th w1) bV (fG _ _ (jL HS1.out)) ?_
     refine Pl.cutL (BK w w1 M S X SX) (BK.mk0 HL1.out HB1.out HS1.out HMS.out) ?_;intro Y2 hY2;have o:=hid hY2;clear hY2)
  | (go_at_call 29;refine HTR.out.mono ?_;rintro e w1 ⟨X,SX,t,er,acc,rfl,hE,hS1,y⟩
     have he0:er=0:=by
      rcases hE with⟨h0,h1,h2,h3|h3⟩|⟨h0,_⟩
      ·exact h3.trans HRZ.out
      ·exact absurd h3.2 (by have:=H19.out;omega)
      ·exact h0
     subst he0;have HE:=hid hE;have HS1:=hid hS1;have HL1:=hid (bn HQ.out y);have HB1:=hid (HB.out.kept y);have HMS:=hid (HS.out.kept (bn HQ.out y));clear hE hS1 y)
  | (refine wpList_load_mid U 41 _ U w.heap.size 0 U (D M S) _ HB.out.c underlying41 U bV ?_))
 obtain⟨K,hJ⟩:=BJ.of U HE.out U HWY.out;have H:js.length=ps.length:=by have h:=congrArg List.length HPS.out;rw[ba,ba] at h;exact h.symm
 have hl5:ps.length<=500:=by have:=(HWY.out.le HRR.out).2;have:=HN.out.1;omega
 rw[H] at hJ;obtain⟨E,hE⟩:∃ E,E=M.aft l N:=⟨_,U⟩
 rw[<- hE] at T;have HEE:=hid hE;have HJ:=hid hJ;clear HB HTR P HLK HQ HS1 HL1 HB1 HMS o u HY4 n HY7 R HRW HCP HE hJ H hE hd;have HL5:=hid hl5;clear hl5;go_wp2;go_loopw [62] (λi wr=>∃ k:Nat,k<=K/\k<=ps.length/\i=.int .i64 k/\BL w w1 w7 M S X SX E SE (.slice av ps.length cv) ps wr) (λi _=>ps.length-(intOf i).toNat)
 case atStart=>exact⟨0,aU _,aU _,U,T.out⟩
 case round =>
  obtain⟨k,hk,hkl,rfl,hY⟩:=hrel;have HY:=hid hY;by_cases B:k<ps.length
  ·have hlt2:(k:Int)<ps.length:=by omega
   have hk0:(0:Int)<=k:=by omega
   have hks:(k:Int)<1000:=by have:=HL5.out;omega
   obtain⟨SZ,hx⟩:=zwX HWY.out HPS.out B;have p:=bh hx;obtain⟨Z,hZ⟩:∃ Z,Z=M.aft l (wj M l N k):=⟨_,U⟩
   rw[<- hZ] at hx p;obtain⟨g1,o1,c1,q1,z1,r1⟩:=hY.row.range B (zsE ps k (Z,SZ) hx);cases q1;have HRN:Hid (wr.rangeAt g1 (o1+k*75) (D Z SZ)):=hid r1;have HZS:=hid (hY.cp _ p);have HZE:=hid hZ;have a:=hid (And.intro hk B);clear hY hx p r1 hZ T hk hkl B;go_upto_region 11 with(first
    | (refine wpList_load_mid U 41 _ U g1 (o1+k*75) (by rfl) (D Z SZ) _ HRN.out underlying41 U bV ?_)
    | (refine wpList_store_mid U 41 _ _ U wr.heap.size 0 (D Z SZ).toArray U U (R1.th wr) bV (fG _ _ (jL HZS.out)) ?_
       refine Pl.cutL (BS w w1 w7 wr M S X SX E SE (.slice (some ⟨g1,o1,none⟩) ps.length cv) ps Z SZ) (BS.mk0 HY.out HZS.out) ?_;intro V hV;have m:=hid hV;clear hV))
   have x72:=m.out.zb.at 72 (.int .i64 Z.clock) U;have x73:=m.out.zb.at 73 (.int .i64 Z.mready) U;have x8:=m.out.zb.at 8 (.int .u16 Z.main.PC) U;have x14:=m.out.zb.at 14 (.bool Z.main.Waits) U;have xz:=m.out.zb.z;have hbk:bk pc Z=(decide (Z.mready<=Z.clock) && decide (Z.main.PC=pc) && !Z.main.Waits):=U;have hgo:bk pc Z=true->t=true/\X=Z:=λhb=>by
    have hkk:=a.out;by_cases hkK:k<K
    ·have:=HJ.out.no k hkK
     rw[<- HZE.out,hb] at this;cases this
    ·have e:k=K:=by omega
     cases F:t with
     | false=>have:=(HJ.out.f F).1;omega
     | true=>exact⟨U,by rw[(HJ.out.t F).2.2,HZE.out,e]⟩
   have hno:bk pc Z=false->k+1<=K:=λhb=>by
    have hkk:=a.out;by_cases hkK:k<K
    ·omega
    ·have e:k=K:=by omega
     cases F:t with
     | false=>have:=(HJ.out.f F).1;omega
     | true =>
      obtain⟨_,h2,h3⟩:=HJ.out.t F;rw[h3,<- e,<- HZE.out,hb] at h2;cases h2
   have HGO:=hid hgo;have HNO:=hid hno;have g:=hid hbk;obtain⟨wt,hwt⟩:∃ b,b=Z.main.Waits:=⟨_,U⟩
   rw[<- hwt] at x14 g;clear hwt hgo hno hbk HY HRN HZS;by_cases h1:Z.mready<=Z.clock
   ·have d1:decide (Z.mready<=Z.clock)=true:=aL h1
    by_cases h2:Z.main.PC=pc
    ·have d2:decide (Z.main.PC=pc)=true:=aL h2
     rw[d1,d2] at g;have h2':(Z.main.PC == pc)=true:=by rw[h2];simp
     clear h1 h2;cases wt
     ·obtain⟨F,hXZ⟩:=HGO.out (by rw[g.out];rfl)
      subst F;have HXZ:=hid hXZ;clear hXZ;go_wp2_with (first
       | (go_at_call 12;refine(oB X SX SZ _ m.out.toBL.toBK.sl (by rw[HXZ.out];exact m.out.zs)).mono ?_;rintro e w9 ⟨rfl,hb9⟩)
       | (refine Bu.loadG U 41 _ U w1.heap.size 0 U (D X SX) _ m.out.toBL.toBK.xb.c underlying41 U bV ?_)
       | (refine Bu.loadG U 41 _ U wr.heap.size 0 U (D X SZ) _ (by rw[HXZ.out];exact m.out.zb.c) underlying41 U bV ?_))
      go_ret;exact⟨U,bn m.out.toBL.toBK.low hb9⟩
     ·have q:=hid (HNO.out (by rw[g.out];rfl))
      go_wp2;exact⟨⟨k+1,q.out,by have:=a.out;omega,by simp,m.out.toBL⟩,by have:=a.out;simp[intOf];omega⟩
    ·have d2:decide (Z.main.PC=pc)=false:=aF h2
     rw[d1,d2] at g;have h2':(Z.main.PC == pc)=false:=by simpa using h2
     have q:=hid (HNO.out (by rw[g.out];rfl));clear h1 h2;go_wp2;exact⟨⟨k+1,q.out,by have:=a.out;omega,by simp,m.out.toBL⟩,by have:=a.out;simp[intOf];omega⟩
   ·have d1:decide (Z.mready<=Z.clock)=false:=aF h1
    rw[d1] at g;have q:=hid (HNO.out (by rw[g.out];rfl));clear h1;go_wp2;exact⟨⟨k+1,q.out,by have:=a.out;omega,by simp,m.out.toBL⟩,by have:=a.out;simp[intOf];omega⟩
  ·have hke:k=ps.length:=by omega
   subst hke;have hnl:¬ (ps.length:Int)<ps.length:=by omega
   have htf:t=false:=by
    cases F:t with
    | false=>rfl
    | true=>have:=(HJ.out.t F).1;omega
   have HXE:=hid ((HJ.out.f htf).2.trans HEE.out.symm);subst htf;clear hY;go_wp2_with (first
    | (go_at_call 12;refine(oB X SX SE _ HY.out.toBK.sl (by rw[HXE.out];exact HY.out.es)).mono ?_;rintro e w9 ⟨rfl,hb9⟩)
    | (refine Bu.loadG U 41 _ U w1.heap.size 0 U (D X SX) _ HY.out.toBK.xb.c underlying41 U bV ?_)
    | (refine Bu.loadG U 41 _ U w7.heap.size 0 U (D X SE) _ (by rw[HXE.out];exact HY.out.eb.c) underlying41 U bV ?_))
   go_ret;exact⟨U,bn HY.out.toBK.low hb9⟩
theorem zgU{M:Mach}{l:List Inp}{n:Int}(a:M.ok)(h:gQ M l n=0):M.chk=0/\chkIn l M.clock=0/\0<=n/\n<=500/\M.clock+n<=200000:=by
 rw[<- zfi a] at h;unfold gU at h;split at h
 ·rename_i h1
  split at h
  ·rename_i h2
   split at h
   ·rename_i h3
    exact⟨h1,h2,h3⟩
   ·cases h
  ·rename_i h2
   exact absurd h h2
 ·rename_i h1
  exact absurd h h1
theorem zgh:gh:=by
 intro H enc W base v0 m v2 v3 I d1 d2 d3 p0 p1 p2 p3 a t t0 u v w t2 y t3;obtain⟨M,S,rfl,c,i,L⟩:=zj5 t t0;obtain⟨l,g,z,o⟩:=zdE u v;obtain⟨n,rfl,_,_,B⟩:=kA underlying3 w t2;obtain⟨pc,rfl,_,_,P⟩:=kA underlying22 y t3;have r:=jk B;have s:=zj7 t0 a.2.2 i.lens;have h:∀ j,j<5->(M.byt j).length<=9223372036854775807:=λj E=>ax (s j E) (by decide)
 have e:∀ x∈l,0<=x.d/\x.d<=255:=λx F=>(o x F).d
 by_cases k:gQ M l n=0
 ·obtain⟨p,hc,a0,a1,a2⟩:=zgU c k
  obtain⟨N,rfl⟩:=aB a0;by_cases q:19000<M.b.f
  ·exact Wt.break_b M S m l N pc W a.1 i h c g e r k q
  ·exact Wt.break_c M S m l N pc W a.1 a.2.1 (zse a.2.1) i s c g e k (rq c p) (InR.of hc e) (by omega) ⟨by omega,a2⟩
 ·exact Wt.break_a M S m l n pc W a.1 i h c g e r k
theorem watchBreak_holds:Rows.WatchBreakCardSaid:=zge zgh
end Go.Proofs.YthghjlinhokimaaGreatDoor
