/-
  Parts of a proof, joined.
-/
import Derived.Test.YthghjlinhokimaaGreatDoorZcA
import Derived.Test.YthghjlinhokimaaGreatDoorZcLockRun03
import Derived.Test.YthghjlinhokimaaGreatDoorZcLockRun04
import Derived.Test.YthghjlinhokimaaGreatDoorZc43
set_option linter.all false
set_option maxRecDepth 100000
set_option maxHeartbeats 6400000
namespace Go.Proofs.YthghjlinhokimaaGreatDoor
open Go.ChangeShapes Go.WideShapes Go.ChangeAt Go.RowKit Go.Proofs.Tryz
theorem ziL{M:Mach}{l:List Inp}{n:Int}(h1:M.chk=0)(h2:chkIn l M.clock=0)(h:¬ (0<=n/\n<=20000/\M.clock+n<=200000)):bF M l n=3:=by
 unfold bF;rw[Q h1,Q h2,G h]
theorem zfg{M:Mach}{l:List Inp}{n:Int}(h1:M.chk=0)(h2:chkIn l M.clock=0)(h:0<=n/\n<=20000/\M.clock+n<=200000):bF M l n=0:=by
 unfold bF;rw[Q h1,Q h2,Q h]
theorem Lk.badRun(M:Mach)(S:Sl)(v:Value)(l:List Inp)(n:Int)(w:World)(L:S.lens M)(q:M.ok)(r:bE w.heap.size w v l)(X:-9223372036854775808<=n/\n<=9223372036854775807):Calls prog 10 #[.agg (D M S).toArray,v,.int .i64 n,.int .i64 20000] w λe w'=>e=.returned (.int .i64 (bF M l n))/\Below w.heap.size w w':=by
 have u:Below w.heap.size w (w.alloc (.cells (D M S).toArray 41)):=stA (J w) _;have o:=hid (Bx.new w (D M S) 41 (b:=w.heap.size) U);have p:=hid ((r.kept u).mono u.size);have E:=hid L;have Y:w.heap.size<(w.alloc (.cells (D M S).toArray 41)).heap.size:=by simp
 by_cases hc:M.chk=0
 ·have P:=rq q hc
  have T:=P.clock;have s:=hid hc;by_cases hi:chkIn l M.clock=0
  ·have x:=hid hi
   clear hc hi r L q P;by_cases F:n<0
   ·have m:=ziL s.out x.out (n:=n) (by omega)
    rw[m];have d1:decide (n<0)=true:=aL F;clear m F;go_enter func10,ntmps10;go_wp2_with (first
     | (refine wpList_load_mid U 41 _ U w.heap.size 0 U (D M S) _ o.out.c underlying41 U bV ?_)
     | (go_at_call 35;refine(oC M S _ E.out).mono ?_;rw[s.out];rintro e w1 ⟨rfl,a⟩;have d:=hid (o.out.kept a);have g:=hid (bn u a);have j:=hid ((p.out.kept a).mono a.size);have t:=d.out.at 72 (.int .i64 M.clock) U;have N:=d.out.z;clear a)
     | (go_at_call 21;refine(Lk.rcheck l v _ M.clock _ j.out (ak _)).mono ?_;rw[x.out];rintro e w2 ⟨rfl,f⟩;have i:=hid (d.out.kept f);have k:=hid (bn g.out f);have y:=i.out.at 72 (.int .i64 M.clock) U;have R:=i.out.z;clear f))
    go_ret;exact⟨U,k.out⟩
   ·have d1:decide (n<0)=false:=aF F
    by_cases h2:20000<n
    ·have m:=ziL s.out x.out (n:=n) (by omega)
     rw[m];have d2:decide (20000<n)=true:=aL h2;clear m F h2;go_enter func10,ntmps10;go_wp2_with (first
      | (refine wpList_load_mid U 41 _ U w.heap.size 0 U (D M S) _ o.out.c underlying41 U bV ?_)
      | (go_at_call 35;refine(oC M S _ E.out).mono ?_;rw[s.out];rintro e w1 ⟨rfl,a⟩;have d:=hid (o.out.kept a);have g:=hid (bn u a);have j:=hid ((p.out.kept a).mono a.size);have t:=d.out.at 72 (.int .i64 M.clock) U;have N:=d.out.z;clear a)
      | (go_at_call 21;refine(Lk.rcheck l v _ M.clock _ j.out (ak _)).mono ?_;rw[x.out];rintro e w2 ⟨rfl,f⟩;have i:=hid (d.out.kept f);have k:=hid (bn g.out f);have y:=i.out.at 72 (.int .i64 M.clock) U;have R:=i.out.z;clear f))
     go_ret;exact⟨U,k.out⟩
    ·have d2:decide (20000<n)=false:=aF h2
     have V:0<=n:=by omega
     have W:n<=20000:=by omega
     by_cases h4:200000<M.clock+n
     ·have m:=ziL s.out x.out (n:=n) (by omega)
      rw[m];have d3:decide (200000<M.clock+n)=true:=aL h4;clear m F h2 h4;go_enter func10,ntmps10;go_wp2_with (first
       | (refine wpList_load_mid U 41 _ U w.heap.size 0 U (D M S) _ o.out.c underlying41 U bV ?_)
       | (go_at_call 35;refine(oC M S _ E.out).mono ?_;rw[s.out];rintro e w1 ⟨rfl,a⟩;have d:=hid (o.out.kept a);have g:=hid (bn u a);have j:=hid ((p.out.kept a).mono a.size);have t:=d.out.at 72 (.int .i64 M.clock) U;have N:=d.out.z;clear a)
       | (go_at_call 21;refine(Lk.rcheck l v _ M.clock _ j.out (ak _)).mono ?_;rw[x.out];rintro e w2 ⟨rfl,f⟩;have i:=hid (d.out.kept f);have k:=hid (bn g.out f);have y:=i.out.at 72 (.int .i64 M.clock) U;have R:=i.out.z;clear f))
      go_ret;exact⟨U,k.out⟩
     ·have m:=zfg s.out x.out (n:=n) (by omega)
      rw[m];have d3:decide (200000<M.clock+n)=false:=aF h4;clear m F h2 h4;go_enter func10,ntmps10;go_wp2_with (first
       | (refine wpList_load_mid U 41 _ U w.heap.size 0 U (D M S) _ o.out.c underlying41 U bV ?_)
       | (go_at_call 35;refine(oC M S _ E.out).mono ?_;rw[s.out];rintro e w1 ⟨rfl,a⟩;have d:=hid (o.out.kept a);have g:=hid (bn u a);have j:=hid ((p.out.kept a).mono a.size);have t:=d.out.at 72 (.int .i64 M.clock) U;have N:=d.out.z;clear a)
       | (go_at_call 21;refine(Lk.rcheck l v _ M.clock _ j.out (ak _)).mono ?_;rw[x.out];rintro e w2 ⟨rfl,f⟩;have i:=hid (d.out.kept f);have k:=hid (bn g.out f);have y:=i.out.at 72 (.int .i64 M.clock) U;have R:=i.out.z;clear f))
      go_ret;exact⟨U,k.out⟩
  ·have m:bF M l n=chkIn l M.clock:=by unfold bF;rw[Q hc,G hi]
   have B:(chkIn l M.clock != 0)=true:=by simpa using hi
   rw[m];have H:=hid (λ(w1:World) (h:bE w1.heap.size w1 v l)=>Lk.rcheck l v _ M.clock w1 h (ak _));generalize chkIn l M.clock=c at B H;clear hc hi r L q P m;go_enter func10,ntmps10;go_wp2_with (first
    | (refine wpList_load_mid U 41 _ U w.heap.size 0 U (D M S) _ o.out.c underlying41 U bV ?_)
    | (go_at_call 35;refine(oC M S _ E.out).mono ?_;rw[s.out];rintro e w1 ⟨rfl,a⟩;have d:=hid (o.out.kept a);have g:=hid (bn u a);have j:=hid ((p.out.kept a).mono a.size);have t:=d.out.at 72 (.int .i64 M.clock) U;have N:=d.out.z;clear a)
    | (go_at_call 21;refine(H.out _ j.out).mono ?_;rintro e w2 ⟨rfl,f⟩;have k:=hid (bn g.out f);clear f))
   go_ret;exact⟨U,k.out⟩
 ·have m:bF M l n=M.chk:=by unfold bF;rw[G hc]
  have B:(M.chk != 0)=true:=by simpa using hc
  rw[m];have I:=hid (λ(w1:World)=>oC M S w1 E.out);generalize M.chk=c at B I;clear hc r L q m;go_enter func10,ntmps10;go_wp2_with (first
   | (refine wpList_load_mid U 41 _ U w.heap.size 0 U (D M S) _ o.out.c underlying41 U bV ?_)
   | (go_at_call 35;refine(I.out _).mono ?_;rintro e w1 ⟨rfl,a⟩;have g:=hid (bn u a);clear a))
  go_ret;exact⟨U,g.out⟩
section
variable {F : Gx} {N ob : Nat} {vl vs : Value} {w w1 : World} {s s' : Bst} {ln : List Lin} {sm : List UInt8} {M : Mach}
variable {W W1 : World}
theorem GV.trans{vl' vs':Value}{s':Bst}{ln':List Lin}{sm':List UInt8}{g:World}(h:GV F N ob vl vs w s ln sm W)(h2:GV F N ob vl' vs' W s' ln' sm' g):GV F N ob vl' vs' w s' ln' sm' g :=
 ⟨h2.c,h.b.trans h2.b,λk d=>by
   obtain⟨e,e1,e2⟩:=h.q k d;have f:Kpt N ob W k:=⟨d.n,by obtain⟨cs,t,fr,e3,i⟩:=d.t;exact⟨cs,t,fr,e.trans e3,i⟩,λu a=>by rw[Lib.cell_of_heap h.c.ob 0] at a;cases a;exact e1,λu a=>by rw[Lib.cell_of_heap h.c.ob 1] at a;cases a;exact e2⟩
   obtain⟨g0,g1,j⟩:=h2.q k f;exact⟨g0.trans e,g1,j⟩⟩
end
section
variable {F : Gx} {N ob : Nat} {vl vs v : Value} {w W W1 : World} {inp : List Inp} {k : Cs}
structure GR (F : Gx) (N ob : Nat) (w w0 : World) (k : Cs) (W : World) : Prop where
 g:∃ vl vs,GV F N ob vl vs w0 k.s k.ln k.sm W
 r:RR w (D aE aM) [.slice none 0 0,.slice none 0 0,.slice none 0 0] W
structure GE (F : Gx) (N ob : Nat) (w : World) (k : Cs) (vl vs vw : Value) (L1 L2 : List Value) (Y : World) : Prop where
 r:RR w L1 L2 Y
 gd:Gd F Y k.s.M ⟨k.s.n,k.s.l,vw⟩
 o:Bx Y ob [vl,vs,vw]
 ln:Y.ownsRow N 68 18 vl k.ln.length (jM k.ln)
 sm:Y.ownsRow N 5 1 vs k.sm.length (dW k.sm)
 lo:∀ k,F.all k->F.B<=k
 z:w.heap.size+3<=F.B/\F.B<=N/\N<=ob
theorem GE.s{L1 L2:List Value}{vw:Value}(h:GE F N ob w k vl vs vw L1 L2 W):W.rangeAt F.g 0 (D k.s.M F.S)/\W.rangeAt ob 0 [vl,vs,vw]:=⟨h.gd.row,h.o.c⟩
theorem GE.kept{L1 L2:List Value}{vw:Value}(h:GE F N ob w k vl vs vw L1 L2 W)(hb:Below W.heap.size W W1):GE F N ob w k vl vs vw L1 L2 W1 :=
 ⟨h.r.kept hb,h.gd.kept hb,h.o.kept hb,fF h.ln (λj e=>hb.block j (fZ h.ln j e).2.1),fF h.sm (λj e=>hb.block j (fZ h.sm j e).2.1),h.lo,h.z⟩
theorem GE.puts{L1 L2 a c:List Value}{vw:Value}(h:GE F N ob w k vl vs vw L1 L2 W)(b:Nat)(hb:b<F.B)(L:List Value)(d:RR w a c (W.setCells b 0 L)):GE F N ob w k vl vs vw a c (W.setCells b 0 L):=by
 obtain⟨i,z2,z3⟩:=h.z
 exact⟨d,h.gd.of_same (bA (lU _ _ _ _).symm) (λj _ f=>fO (by have:=h.lo j f;omega) _ _ _) (λj g=>fO (by have:=(fZ h.gd.ws j g).1;omega) _ _ _),DW.bb h.o (by omega),
  fF h.ln (λj e=>fO (by have:=(fZ h.ln j e).1;omega) _ _ _),fF h.sm (λj e=>fO (by have:=(fZ h.sm j e).1;omega) _ _ _),h.lo,h.z⟩
theorem GE.put1{L2:List Value}{vw:Value}(h:GE F N ob w k vl vs vw (D aE aM) L2 W):GE F N ob w k vl vs vw (D k.s.M F.S) L2 (W.setCells (w.heap.size+1) 0 (D k.s.M F.S)):=by
 obtain⟨b,z2,z3⟩:=h.z;have a:=h.r.b1.puts 0 (D k.s.M F.S) (by rw[cy,cy];omega);rw[jJ _ _ (by rw[cy,cy])] at a;exact h.puts _ (by omega) _ ⟨j4 h.r.low (by omega) _ _,a,DW.bb h.r.b2 (by omega)⟩
theorem GE.put2{L1:List Value}{vw x y z:Value}(h:GE F N ob w k vl vs vw L1 [x,y,z] W):GE F N ob w k vl vs vw L1 [vl,vs,vw] (W.setCells (w.heap.size+2) 0 [vl,vs,vw]):=by
 obtain⟨b,z2,z3⟩:=h.z;have a:=h.r.b2.puts 0 [vl,vs,vw] (by simp);rw[jJ _ _ (by simp)] at a;exact h.puts _ (by omega) _ ⟨j4 h.r.low (by omega) _ _,DW.bb h.r.b1 (by omega),a⟩
theorem GE.of{L1 L2:List Value}{vw:Value}{w0:World}(b:GK F N ob)(h:GV F N ob vl vs w0 k.s k.ln k.sm W)(r:RR w L1 L2 W)(p:Gd F W k.s.M ⟨k.s.n,k.s.l,vw⟩)(g:∀ k,F.all k->F.B<=k)(q:w.heap.size+3<=F.B):GE F N ob w k vl vs vw L1 L2 (W.setCell ⟨ob,2,none⟩ vw):=by
 have a:=h.c.ob;have far:∀ j,j≠ob->(W.setCell ⟨ob,2,none⟩ vw).heap[j]?=W.heap[j]?:=λj d=>dy d
 have hB:=b.B;have i:Below F.B W (W.setCell ⟨ob,2,none⟩ vw):=Pl.below (ax hB b.ob) [vw] 2 W ((J W).mono h.c.big);have e:(W.setCell ⟨ob,2,none⟩ vw).heap[ob]?=some (.cells ([vl,vs,vw]:List Value).toArray 47 (0,0)):=py a vw
 refine⟨r.far q i,p.of_same (by simp) (λj _ t=>far j (by have:=b.all j t;have:=b.ob;omega)) (λj d=>far j (λf=>?_)),⟨(ay.1 e).1,λj v d=>(Lib.cell_of_heap e (0+j)).trans (by rw[aN,bw];exact d),λo=>Lib.frozen_of_heap e o⟩,
  fF h.c.ln (λj m=>far j (λf=>?_)),fF h.c.sm (λj m=>far j (λf=>?_)),g,q,hB,b.ob⟩
 ·obtain⟨cs,fr,e2⟩:=p.wty j d
  subst f;rw[a] at e2;simp only[aP,cP] at e2;exact absurd e2.2.1 (by decide)
 ·subst f;exact jN h.c.ln a (by decide) m
 ·subst f;exact jN h.c.sm a (by decide) m
theorem Rk.run(M:Mach)(S:Sl)(v:Value)(n:Nat)(w:World)(hs:bM w S M)(hsz:∀ j,j<5->(M.byt j).length<=140737488355328)(hF:Facts w)(hg:1<w.heap.size/\0<w.heap.size/\2<w.heap.size)(hin:bE w.heap.size w v inp)(hf:M.fit)(hok:∀ x∈inp,x.ok)(hli:inp.length<=40)(hc:chkIn inp M.clock=0)(hn:n<=200000)
 (hm:∀ j,j<n->(Cs.clocks ⟨⟨M,0,[]⟩,inp,[],[]⟩ j).may) :
 Calls prog 16 #[.agg (D M S).toArray,v,.int .i64 n] w λe w'=>∃(F:Gx) (N:Nat) (vl vs vw:Value),e=.returned (.tuple #[.agg (D (Cs.clocks ⟨⟨M,0,[]⟩,inp,[],[]⟩ n).s.M F.S).toArray,.agg #[vl,vs,vw]])/\bM w' F.S (Cs.clocks ⟨⟨M,0,[]⟩,inp,[],[]⟩ n).s.M/\(Cs.clocks ⟨⟨M,0,[]⟩,inp,[],[]⟩ n).s.M.fit /\
  w'.ownsRow N 68 18 vl (Cs.clocks ⟨⟨M,0,[]⟩,inp,[],[]⟩ n).ln.length (jM (Cs.clocks ⟨⟨M,0,[]⟩,inp,[],[]⟩ n).ln)/\w'.ownsRow N 5 1 vs (Cs.clocks ⟨⟨M,0,[]⟩,inp,[],[]⟩ n).sm.length (dW (Cs.clocks ⟨⟨M,0,[]⟩,inp,[],[]⟩ n).sm) /\
  w'.ownsRow F.B 104 3 vw (Cs.clocks ⟨⟨M,0,[]⟩,inp,[],[]⟩ n).s.l.length (kv (Cs.clocks ⟨⟨M,0,[]⟩,inp,[],[]⟩ n).s.l)/\w.heap.size<=F.B/\Below w.heap.size w w':=by
 obtain⟨H,p⟩:∃ H:Cs,H=⟨⟨M,0,[]⟩,inp,[],[]⟩:=⟨_,U⟩
 rw[<- p] at hm ⊢;have HD0:=hid (by rw[p];exact pG.of hc:pG inp H);have HK0:=hid p;have hBm:=Bx.new w (D M S) 41 (b:=w.heap.size) U;have hW:Below w.heap.size w (((w.alloc (.cells (D M S).toArray 41)).alloc (.cells (D aE aM).toArray 41)).alloc (.cells #[.slice none 0 0,.slice none 0 0,.slice none 0 0] 47)):=stA (stA (stA (J w) _) _) _;have HRR:Hid (RR w (D aE aM) [.slice none 0 0,.slice none 0 0,.slice none 0 0] (((w.alloc (.cells (D M S).toArray 41)).alloc (.cells (D aE aM).toArray 41)).alloc (.cells #[.slice none 0 0,.slice none 0 0,.slice none 0 0] 47))) :=
  ⟨hW,(Bx.new (w.alloc (.cells (D M S).toArray 41)) (D aE aM) 41 (b:=w.heap.size+1) (by simp)).over _,Bx.new ((w.alloc (.cells (D M S).toArray 41)).alloc (.cells (D aE aM).toArray 41)) [.slice none 0 0,.slice none 0 0,.slice none 0 0] 47 (b:=w.heap.size+2) (by simp)⟩
 have HBM:=hid ((hBm.over (.cells (D aE aM).toArray 41)).over (.cells #[.slice none 0 0,.slice none 0 0,.slice none 0 0] 47));have HS:=hid (hs.kept hW);have HFX:=hid (hF.kept hW);have HIN:=hid ((hin.kept hW));have HG:=hid hg;have HF:=hid hf;have HSZ:=hid hsz;have HM:=hid hm;have HOK:=hid hok;have HLI:=hid hli;have HN:=hid hn;clear hs hF hin hf hok hc hn hm hBm hW p hg hsz hli;go_enter func16,ntmps16;go_upto_region 3 with(first
  | (refine wpList_load_mid U 41 _ U w.heap.size 0 U (D M S) _ HBM.out.c underlying41 U bV ?_)
  | (go_at_call 8;refine(sL M S _ HS.out HSZ.out).mono ?_;rintro e w1 ⟨S1,rfl,hO,R⟩;have HO:Hid (OwnS (w.heap.size+5) S1 M w1):=hid (by simpa using hO);have HR1:=hid (HRR.out.kept R);have q:=hid R;clear hO R)
  | (refine zcA U 107 0 _ U (.agg (D M S1).toArray) _ U (qu M S1 _) ?_))
 have hB1:w.heap.size+5<=w1.heap.size:=by
  obtain⟨kk,cap,_,_,hBk,hbx,_⟩:=HO.out.own 0 (by omega);have:=hbx.z;omega
 obtain⟨F,T,hFg,hlo,hGK,W⟩:=zvk HO.out HF.out hB1 (HFX.out.kept q.out) (by have:=HG.out;omega) 107;obtain⟨w2,t⟩:∃ w2,w2=((w1.alloc (.cells (D M S1++nf).toArray 107)).alloc (.cells #[.slice none 0 0,.slice none 0 0,.slice none 0 0] 47)):=⟨_,U⟩
 rw[<- t] at W;have X:Below w1.heap.size w1 w2:=by rw[t];exact stA (stA (J w1) _) _
 have HR2:=hid (HR1.out.kept X)
 have HIN2:Hid (bE F.B w2 v inp):=hid (by
  rw[T];exact(((HIN.out.kept (q.out.mono (by simp <;> omega))).kept (X.mono (by omega))).mono (by omega)))
 have HGK:=hid hGK;have HLO:=hid hlo;have HGC:=hid W;have HFB:=hid T;rw[<- hFg] at *;clear hGK W hlo X HBM HRR HS HFX HIN HR1 q HO hB1 T;have HGR0:Hid (GR F (F.g+1) (F.g+1) w w2 H w2):=hid ⟨⟨_,_,GV.start (by rw[HK0.out];exact HGC.out)⟩,HR2.out⟩;have HW2:=hid t;refine Pl.cutW (GR F (F.g+1) (F.g+1) w w2 H) (by rw[<- HW2.out];exact HGR0.out) ?_;intro Y hY;have u:=hid hY;clear hY t HGC HR2 HGR0;have I:w.heap.size+3<=F.B:=by have:=HFB.out;omega
 have HFB3:=hid I;clear I;go_wp2;go_loopw [15] (λi wr=>∃ j:Nat,j<=n/\i=.int .i64 j/\GR F (F.g+1) (F.g+1) w w2 (H.clocks j) wr) (λi _=>n-(intOf i).toNat)
 case atStart=>exact⟨0,aU _,U,u.out⟩
 case round =>
  obtain⟨j,hj,rfl,hX⟩:=hrel;obtain⟨⟨a,d,hG⟩,hR⟩:=hX;have f:=hid hG;have HR:=hid hR;clear u hG hR;by_cases y:j<n
  ·have HLT:=hid y
   have hjl:(j:Int)<n:=by omega
   have hj0:(0:Int)<=j:=by omega
   have hjb:(j:Int)<200000:=by have:=HN.out;omega
   have HNX:=hid (zvj HGK.out f.out.c (HIN2.out.kept f.out.b) HOK.out HLI.out (HD0.out.clocks j) (HM.out j y));go_wp2_with (go_at_call 41;refine HNX.out.mono ?_;rintro e w4 ⟨rfl,vl2,vs2,Z⟩;have HX2:Hid (GR F (F.g+1) (F.g+1) w w2 (H.clocks (j+1)) w4):=hid ⟨⟨vl2,vs2,f.out.trans Z⟩,HR.out.far HFB3.out Z.b⟩;clear Z)
   go_roundw
   case rel=>exact⟨j+1,HLT.out,by go_num,HX2.out⟩
   case measure=>have y:=HLT.out;simp[intOf];omega
  ·have hjn:j=n:=by omega
   subst hjn;have hnl:¬ (j:Int)<j:=by omega
   obtain⟨k,hk⟩:∃ k,k=H.clocks j:=⟨_,U⟩
   rw[<- hk] at f;have m:=hid hk;obtain⟨vw,h⟩:=f.out.c.gd;obtain⟨o,nw,cw,ew0⟩:=mi h.ws;have ew:vw=.slice o nw cw:=ew0;clear ew0;subst ew;have m75:=h.at 75 (.slice o nw cw) U;have o2:=Lib.cell_of_heap f.out.c.ob 2;have of:=λi=>Lib.frozen_of_heap f.out.c.ob i
   have oz:=f.out.c.lt;have gz:=h.bx.z;have HE:=hid (GE.of HGK.out f.out HR.out h HLO.out HFB3.out);have HSI:Hid F.S.isSl:=hid h.isSl;have q:Hid (F.B<=F.g):=hid h.nd.lo.1;clear h hk y;go_upto_region 8 with fail
   refine Pl.cutW (GE F (F.g+1) (F.g+1) w k a d (.slice o nw cw) (D aE aM) [.slice none 0 0,.slice none 0 0,.slice none 0 0]) HE.out ?_;intro Y1 hY1;have u:=hid (hY1.kept (J Y1).drew);clear hY1 HE m75 o2 of oz gz f HR;refine wp_region_held_drew (S:=λw'=>w'.rangeAt F.g 0 (D k.s.M F.S)/\w'.rangeAt (F.g+1) 0 [a,d,.slice o nw cw]) (by kernel_rfl) (u.out.s) ?_;intro hS;refine ee 0 ⟨some 26,_,_,_,_,none⟩ hS ?_;simp only[Act.put,xA,xB,xC];refine ee 1 ⟨some 27,_,_,_,_,none⟩ hS ?_;simp only[Act.put,xA,xB,xC];refine ee 2 ⟨some 28,_,_,_,_,none⟩ hS ?_;simp only[Act.put,xA,xB,xC];refine iq 3 (.agg (D k.s.M F.S).toArray) U (λw' hSw=>kt 41 _ U F.g 0 U (D k.s.M F.S) _ hSw.1 underlying41 U bV) hS ?_;refine iq 4 (.agg ([a,d,.slice o nw cw]:List Value).toArray) U (λw' hSw=>kt 47 _ U (F.g+1) 0 U ([a,d,.slice o nw cw]) _ hSw.2 underlying47 U jK) hS ?_;have E:=hid u.out.put1;refine pE (i:=5) (op:=⟨none,_,_,_,_,none⟩) (by kernel_rfl) U U 41 _ _ U (w.heap.size+1) 0 (D k.s.M F.S).toArray U U (u.out.r.b1.there 0 75 (by rw[cy];omega)) bV (fG _ _ HSI.out) E.out.s ?_
   have HY2:=hid E.out.put2;have hth:=E.out.r.b2.there 0 3 (by simp);obtain⟨al,nl,cl,el⟩:=mi u.out.ln;obtain⟨aS,nS,cS,es⟩:=mi u.out.sm;have L:(([a,d,.slice o nw cw]:List Value)).toArray.all (·.oneCell')=true:=by rw[el,es];simp[Value.oneCell']
   have hss:=HY2.out.s;clear hS;refine pE (i:=6) (op:=⟨none,_,_,_,_,none⟩) (by kernel_rfl) U U 47 _ _ U (w.heap.size+2) 0 #[a,d,.slice o nw cw] U U hth jK L hss ?_;refine wpAnyH_done (by kernel_rfl) ?_ _;refine Pl.cutE (GE F (F.g+1) (F.g+1) w k a d (.slice o nw cw) (D k.s.M F.S) [a,d,.slice o nw cw]) HY2.out ?_;intro V hV;have P:=hid hV;clear hV u E HY2 hth L hss el es;go_wp2;refine ao (v:=.tuple #[.agg (D k.s.M F.S).toArray,.agg #[a,d,.slice o nw cw]]) ?_ U ⟨F,F.g+1,a,d,.slice o nw cw,by rw[<- m.out],by rw[<- m.out];exact P.out.gd.slAt,by rw[<- m.out];exact P.out.gd.fit,by rw[<- m.out];exact P.out.ln,by rw[<- m.out];exact P.out.sm,by rw[<- m.out];exact P.out.gd.ws,by have:=HFB3.out;omega,P.out.r.low⟩;have l1:=run_loadVar_mid V (w.heap.size+1) 0 41 _ _ P.out.r.b1.c underlying41 U bV;have l2:=run_loadVar_mid V (w.heap.size+2) 0 47 _ _ P.out.r.b2.c underlying47 U jK;simp only[results,results16]
   simp;show (Result.andThen (Sem.run prog (loadVar 41 ⟨w.heap.size+1,0,none⟩) V) _)=_;rw[l1];show (Result.andThen (Sem.run prog (loadVar 47 ⟨w.heap.size+2,0,none⟩) V) _)=_;rw[l2];rfl
end
theorem zmk(s:Bst)(h:s.l.length<=1000000):s.stepAux.l.length<=s.l.length+4:=by
 unfold Bst.stepAux;split
 ·omega
 ·have c:=C.fuel_step (m:=bY) (λs a=>ak _) (λs a b=>by
   have:=zir s.M a (b%256);show 1000000001-s.l.length<=1000000001-(s.l++s.M.shA a (b%256)).length+1;rw[aC];omega) s.M.aux s s.M.rung
  have d:1000000001-s.l.length<=1000000001-(C.step bY s.M.aux s s.M.rung).s.l.length+4:=c;show (C.step bY s.M.aux s s.M.rung).s.l.length<=_;omega
theorem zeG(a:Cs)(b:a.ln=[]/\a.sm=[]/\a.s.l=[]):∀ j:Nat,j<=20000->(a.clocks j).ln.length<=j/\(a.clocks j).sm.length<=j/\(a.clocks j).s.l.length<=4*j
 | 0,_=>⟨by show a.ln.length<=0;rw[b.1];simp,by show a.sm.length<=0;rw[b.2.1];simp,by show a.s.l.length<=4*0;rw[b.2.2];simp⟩
 | j+1,f=>by
  obtain⟨d,i2,i3⟩:=zeG a b j (by omega);obtain⟨k,c⟩:∃ k,k=a.clocks j:=⟨_,U⟩
  have e:a.clocks (j+1)=k.clock:=by rw[c];rfl
  rw[<- c] at d i2 i3;rw[e];refine⟨?_,?_,?_⟩
  ·show (k.ln++(k.s.M.pressed k.co).line).length<=_
   have:=zl6 (k.s.M.pressed k.co);rw[aC];omega
  ·show (k.sm++(k.s.M.pressed k.co).sample).length<=_
   have:=zfP (k.s.M.pressed k.co);rw[aC];omega
  ·show ((Bst.stepMain ⟨k.s.M.pressed k.co,k.s.n,k.s.l⟩).stepAux).l.length<=_
   have h1:(Bst.stepMain ⟨k.s.M.pressed k.co,k.s.n,k.s.l⟩).l=k.s.l:=ve _;have h2:=zmk (Bst.stepMain ⟨k.s.M.pressed k.co,k.s.n,k.s.l⟩) (by rw[h1];omega);rw[h1] at h2;omega
structure LawB (w : World) (b1 : Nat) (M : Mach) (S S1 : Sl) (v : Value) (l : List Inp) (Y : World) : Prop where
 low:Below w.heap.size w Y
 bm:Bx Y w.heap.size (D M S)
 bo:Bx Y b1 (D M S1)
 sm:bM Y S M
 so:bM Y S1 M
 inp:bE w.heap.size Y v l
 af:AF Y
 fa:Facts Y
structure LawR (w5 : World) (X : Mach) (SX : Sl) (p1 p2 p3 : Value) (ln : List Lin) (sm : List UInt8) (ws : List Wt) (Y : World) : Prop where
 r:R3 w5 X SX [p1,p2,p3] Y
 sx:bM Y SX X
 sh:ShAt Y p1 p2 p3 ln sm ws
section
variable {w w1 Y Y' : World} {b1 : Nat} {M X : Mach} {S S1 SX : Sl} {v p1 p2 p3 : Value} {l : List Inp} {ln : List Lin} {sm : List UInt8} {ws : List Wt}
theorem LawB.kept(h:LawB w b1 M S S1 v l Y)(hb:Below Y.heap.size Y Y'):LawB w b1 M S S1 v l Y' :=
 ⟨bn h.low hb,h.bm.kept hb,h.bo.kept hb,h.sm.kept hb,h.so.kept hb,h.inp.kept (hb.mono h.low.size),h.af.kept hb,h.fa.kept hb⟩
theorem LawB.mk1(c:Below w.heap.size w w1)(d:Bx w1 w.heap.size (D M S))(e:bM w1 S M)(f:bM w1 S1 M)(a:bE w.heap.size w1 v l)(g:AF w1)(h:Facts w1):LawB w w1.heap.size M S S1 v l ((w1.alloc (.cells (D aE aM).toArray 41)).setCells w1.heap.size 0 (D M S1)):=by
 have hb:Below w1.heap.size w1 ((w1.alloc (.cells (D aE aM).toArray 41)).setCells w1.heap.size 0 (D M S1)):=j4 (stA (J w1) _) (ak _) _ _;have h1:=(Bx.new w1 (D aE aM) 41 (b:=w1.heap.size) U).puts 0 (D M S1) (by rw[cy,cy];omega);rw[jJ _ _ (by rw[cy,cy])] at h1;exact⟨bn c hb,d.kept hb,h1,e.kept hb,f.kept hb,a.kept (hb.mono c.size),g.kept hb,h.kept hb⟩
theorem LawB.inp'(h:LawB w b1 M S S1 v l Y):bE Y.heap.size Y v l:=h.inp.mono h.low.size
theorem LawR.kept(h:LawR w1 X SX p1 p2 p3 ln sm ws Y)(hb:Below Y.heap.size Y Y'):LawR w1 X SX p1 p2 p3 ln sm ws Y':=⟨h.r.kept hb,h.sx.kept hb,h.sh.kept hb⟩
theorem qD(V:World):bM V aM aE:=λj a=>by
 have hc:j=0 \/ j=1 \/ j=2 \/ j=3 \/ j=4:=by omega
 rcases hc with rfl|rfl|rfl|rfl|rfl <;> exact Or.inl ⟨none,0,U,U⟩
theorem oE(V:World):ShAt V (.slice none 0 0) (.slice none 0 0) (.slice none 0 0) [] [] []:=⟨⟨U,Or.inl ⟨U,none,0,U⟩⟩,Or.inl ⟨none,0,U,U⟩,⟨U,Or.inl ⟨U,none,0,U⟩⟩⟩
theorem zvl{F:Fx}{N:Nat}{k:Cs}{vln vsm vw:Value}{w:World}(h:Told F N k vln vsm vw w):ShAt w vln vsm vw k.ln k.sm k.s.l:=⟨qA h.ln,zcK h.sm,qA h.ws⟩
end
theorem sW(w:World):Calls prog 13 #[.agg (D aE aM).toArray] w λe w'=>e=.returned (.bool true)/\Below w.heap.size w w':=by
 have d:=hid (Bx.new w (D aE aM) 41 (b:=w.heap.size) U);go_enter func13,ntmps13;go_wp2_with (first
  | (refine wpList_load_mid U 41 _ U w.heap.size 0 U (D aE aM) _ d.out.c underlying41 U bV ?_)
  | (refine zek U 41 U _ (znK _) ?_)
  | (go_at_call 12;refine(oB aE aM aM _ (qD _) (qD _)).mono ?_;rintro e w4 ⟨rfl,a⟩))
 go_ret;exact⟨U,bn (stA (J w) _) a⟩
def nA(d:Nat)(M X:Mach)(v:Value)(l:List Inp)(n r:Int)(ln:List Lin)(sm:List UInt8)(ws:List Wt):Prop :=
 ∀(S1:Sl) (W:World),bM W S1 M->AF W->bE W.heap.size W v l->Calls prog d #[.agg (D M S1).toArray,v,.int .i64 n] W λe w' =>
  ∃(SX:Sl) (a1 a2 a3:Option Addr) (a b c c1 c2 c3:Nat),e=.returned (.tuple #[.agg (D X SX).toArray,.agg #[.slice a1 a c1,.slice a2 b c2,.slice a3 c c3],.int .i64 r])/\bM w' SX X/\ShAt w' (.slice a1 a c1) (.slice a2 b c2) (.slice a3 c c3) ln sm ws/\Below W.heap.size W w'
def nO(d:Nat)(M:Mach)(v:Value)(l:List Inp)(n:Int):Prop :=
 ∀(S1:Sl) (W:World),bM W S1 M->AF W->bE W.heap.size W v l->Calls prog d #[.agg (D M S1).toArray,v,.int .i64 n] W λe w' =>
  ∃(X:Mach) (SX:Sl) (ln:List Lin) (sm:List UInt8) (ws:List Wt) (a1 a2 a3:Option Addr) (a b c c1 c2 c3:Nat),e=.returned (.tuple #[.agg (D X SX).toArray,.agg #[.slice a1 a c1,.slice a2 b c2,.slice a3 c c3],.int .i64 0])/\bM w' SX X/\ShAt w' (.slice a1 a c1) (.slice a2 b c2) (.slice a3 c c3) ln sm ws/\Below W.heap.size W w'
theorem nA.some{a:Nat}{M X:Mach}{v:Value}{l:List Inp}{n:Int}{ln:List Lin}{sm:List UInt8}{ws:List Wt}(h:nA a M X v l n 0 ln sm ws):nO a M v l n:=λS1 W h1 h2 h3=>(h S1 W h1 h2 h3).mono λe w' ⟨SX,a1,a2,a3,b,c,d,c1,c2,c3,h⟩=>⟨X,SX,ln,sm,ws,a1,a2,a3,b,c,d,c1,c2,c3,h⟩
def pj(M X:Mach)(v:Value)(l:List Inp)(n:Int)(ln:List Lin)(sm:List UInt8)(ws:List Wt):Prop :=
 ∀(S:Sl) (W:World),S.lens M->(∀ j,j<5->(M.byt j).length<=140737488355328)->bM W S M->Facts W->bE W.heap.size W v l->Calls prog 16 #[.agg (D M S).toArray,v,.int .i64 n] W λe w' =>
  ∃(SX:Sl) (a1 a2 a3:Option Addr) (a b c c1 c2 c3:Nat),e=.returned (.tuple #[.agg (D X SX).toArray,.agg #[.slice a1 a c1,.slice a2 b c2,.slice a3 c c3]])/\bM w' SX X/\ShAt w' (.slice a1 a c1) (.slice a2 b c2) (.slice a3 c c3) ln sm ws/\Below W.heap.size W w'
theorem zsf{M:Mach}{v:Value}{l:List Inp}{n:Nat}{K:Cs}(m:K=Cs.clocks ⟨⟨M,0,[]⟩,l,[],[]⟩ n)(h:M.fit)(a:∀ x∈l,x.ok)(hc:chkIn l M.clock=0)(o:n<=20000/\M.clock+n<=200000)(c:M.b.f<=19900):pj M K.s.M v l n K.ln K.sm K.s.l:=λS w _ p q i d=>by
 have g:l.length<=40:=(qB hc).1;refine(Rk.run M S v n w q p i (zse i) d h a g hc (by omega) (λj r=>qU h c o r)).mono ?_;rw[<- m];rintro e w' ⟨F,N,vl,vs,vw,rfl,h1,h2,h3,h4,k,B,t⟩;obtain⟨a1,u,c1,e1⟩:=mi h3;obtain⟨a2,y,c2,e2⟩:=mi h4;obtain⟨a3,z,c3,e3⟩:=mi k;subst e1 e2 e3;exact⟨F.S,a1,a2,a3,u,y,z,c1,c2,c3,U,h1,⟨qA h3,zcK h4,qA k⟩,t⟩
theorem zsg(M:Mach)(S:Sl)(v:Value)(l:List Inp)(n:Int)(w:World)(hF:AF w)(N:Facts w)(hs:bM w S M)(hl:∀ j,j<5->(M.byt j).length<=140737488355328)(p:M.ok)(P:bE w.heap.size w v l)(hn:-9223372036854775808<=n/\n<=9223372036854775807)(hr:bF M l n≠0):Calls prog 3 #[.agg (D M S).toArray,v,.int .i64 n] w λe w'=>e=.returned (.bool true)/\Below w.heap.size w w':=by
 have hnz:((bF M l n) != 0)=true:=by simpa using hr
 have a:∀(S1:Sl) (W:World),bM W S1 M->AF W->bE W.heap.size W v l->Calls prog 9 #[.agg (D M S1).toArray,v,.int .i64 n] W λe w'=>e=.returned (.tuple #[.agg (D aE aM).toArray,.agg #[.slice none 0 0,.slice none 0 0,.slice none 0 0],.int .i64 (bF M l n)])/\Below W.heap.size W w':=λS1 W h1 h2 h3=>zeE M S1 v l n W h1 (λj hj=>by have:=hl j hj;omega) p h3 hn hr
 have L:Below w.heap.size w (w.alloc (.cells (D M S).toArray 41)):=stA (J w) _;have HB:=hid (Bx.new w (D M S) 41 (b:=w.heap.size) U);have HQ:=hid L;have HS:=hid (hs.kept L);have HIN:=hid (P.kept L);have HAF:=hid (hF.kept L);have HFA:=hid (N.kept L);have HLN:=hid hs.lens;have HL:=hid hl;have HOK:=hid p;have HN:=hid hn;clear L hF N hs hl p P hn;have f:=(λ(W:World) (h:bE W.heap.size W v l)=>Lk.badRun M S v l n W HLN.out HOK.out h HN.out)
 generalize bF M l n=r at hnz a f;have HRUN:=hid a;have HBR:=hid f;clear hr a f;go_enter func3,ntmps3;go_wp2_with (first
  | (go_at_call 14;refine(Lk.sameShown (.slice none 0 0) (.slice none 0 0) (.slice none 0 0) (.slice none 0 0) (.slice none 0 0) (.slice none 0 0) [] [] [] _ g.out.sh (oE _) (by simp) (by simp)).mono ?_;rintro e w10 ⟨rfl,R⟩;have HL10:=hid (bn HP9.out.low R))
  | (go_at_call 13;refine(sW _).mono ?_;have hy8:=q;rintro e w9 ⟨rfl,t⟩;have HP9:=hid (HP8.out.kept t);have g:=hid (q.out.kept t);have g0:=g.out.r.s.at 0 _ U;have g1:=g.out.r.s.at 1 _ U;have g2:=g.out.r.s.at 2 _ U;have gz:=g.out.r.s.z;clear t hy8)
  | (refine Bu.loadG U 41 _ U w2.heap.size 0 U (D aE aM) _ q.out.r.x.c underlying41 U bV ?_)
  | (go_at_call 12;refine(oB M S1 S _ i.out.so i.out.sm).mono ?_;rintro e w8 ⟨rfl,u⟩;have HP8:=hid (i.out.kept u);have q:=hid (HR7.out.kept u);clear u)
  | (refine Bu.loadG U 41 _ U w1.heap.size 0 U (D M S1) _ i.out.bo.c underlying41 U bV ?_)
  | (refine Bu.loadG U 41 _ U w.heap.size 0 U (D M S) _ i.out.bm.c underlying41 U bV ?_)
  | (go_at_call 11;refine(zbM _ T.out.af).mono ?_;rintro e w7 ⟨rfl,y⟩;have i:=hid (T.out.kept y);have HR7:=hid (HR6.out.kept y);clear y)
  | (go_at_call 12;refine(oB M S1 S _ k.out.so k.out.sm).mono ?_;rintro e w6 ⟨rfl,B⟩;have T:=hid (k.out.kept B);have HR6:=hid (HR5.out.kept B);clear B)
  | (refine Bu.loadG U 41 _ U w1.heap.size 0 U (D M S1) _ k.out.bo.c underlying41 U bV ?_)
  | (refine Bu.loadG U 41 _ U w.heap.size 0 U (D M S) _ k.out.bm.c underlying41 U bV ?_)
  | (go_at_call 11;refine(zbM _ V.out.af).mono ?_;rintro e w5 ⟨rfl,E⟩;have k:=hid (V.out.kept E);have HR5:=hid (HR4.out.kept E);clear E)
  | (go_at_call 10;refine(HBR.out _ F.out.inp').mono ?_;rintro e w4 ⟨rfl,H⟩;have V:=hid (F.out.kept H);have HR4:=hid (HR3.out.kept H);clear H)
  | (refine wpList_load_mid U 41 _ U w.heap.size 0 U (D M S) _ F.out.bm.c underlying41 U bV ?_)
  | (refine wpList_store_mid U 47 _ _ U (w2.heap.size+1) 0 #[.slice none 0 0,.slice none 0 0,.slice none 0 0] U U (X.out.s.there 0 3 (by simp)) jK (jO _ _ _ _ _ _ _ _ _) ?_
     refine Pl.cutL (R3 w2 aE aM [.slice none 0 0,.slice none 0 0,.slice none 0 0]) X.out.put ?_;intro Y3 m;have F:=hid (HP2.out.kept m.old);have HR3:=hid (⟨m,HSX.out.kept m.old,HSH.out.kept m.old⟩:LawR w2 aE aM (.slice none 0 0) (.slice none 0 0) (.slice none 0 0) [] [] [] Y3);clear m)
  | (refine wpList_store_mid U 41 _ _ U w2.heap.size 0 (D aE aM).toArray U U (R3.th1 w2) bV (fG _ _ HIS2.out) ?_
     refine Pl.cutL (R3 w2 aE aM nil3) (R3.mk1 w2 aE aM) ?_;intro Y2 Y;have X:=hid Y;clear Y)
  | (go_at_call 9;refine(HRUN.out _ _ o.out.so o.out.af o.out.inp').mono ?_;rintro e w2 ⟨rfl,Z⟩;have I:=qD w2;have hsh:=oE w2;have HP2:=hid (o.out.kept Z);have HIS2:=hid (jL I);have HSX:=hid I;have HSH:=hid hsh;clear Z I hsh)
  | (refine wpList_load_mid U 41 _ U w1.heap.size 0 U (D M S1) _ o.out.bo.c underlying41 U bV ?_)
  | (refine wpList_store_mid U 41 _ _ U w1.heap.size 0 (D M S1).toArray U U ((Bx.new w1 (D aE aM) 41 (b:=w1.heap.size) U).there 0 75 (by rw[cy];omega)) bV (fG _ _ HIS1.out) ?_
     refine Pl.cutL (LawB w w1.heap.size M S S1 v l) (LawB.mk1 HL1.out HB1.out HS1.out HO.out HIN1.out HAF1.out HFA1.out) ?_;intro Y1 hY1;have o:=hid hY1;clear hY1)
  | (go_at_call 8;refine(sL M S _ HS.out HL.out).mono ?_;rintro e w1 ⟨S1,rfl,hO,d⟩;have HO:=hid hO.slAt;have HIS1:=hid (jL hO.slAt);have HL1:=hid (bn HQ.out d);have HB1:=hid (HB.out.kept d);have HS1:=hid (HS.out.kept d);have HIN1:=hid (HIN.out.kept (d.mono HQ.out.size));have HAF1:=hid (HAF.out.kept d);have HFA1:=hid (HFA.out.kept d);clear hO d)
  | (refine wpList_load_mid U 41 _ U w.heap.size 0 U (D M S) _ HB.out.c underlying41 U bV ?_))
 go_ret;exact⟨U,HL10.out⟩
theorem zsh(M:Mach)(S:Sl)(v:Value)(l:List Inp)(n:Int)(w:World)(hF:AF w)(x:Facts w)(T:bM w S M)(hl:∀ j,j<5->(M.byt j).length<=140737488355328)(y:M.ok)(z:bE w.heap.size w v l)(hn:-9223372036854775808<=n/\n<=9223372036854775807)(hr:bF M l n=0)(B:19000<M.b.f)(m:nO 9 M v l n):Calls prog 3 #[.agg (D M S).toArray,v,.int .i64 n] w λe w'=>e=.returned (.bool true)/\Below w.heap.size w w':=by
 have hd:decide (19000<M.b.f)=true:=aL B;have HR:=hid hr;have HRUN:=hid m;have u:Below w.heap.size w (w.alloc (.cells (D M S).toArray 41)):=stA (J w) _;have HB:=hid (Bx.new w (D M S) 41 (b:=w.heap.size) U);have HQ:=hid u;have HS:=hid (T.kept u);have V:=hid (z.kept u);have Y:=hid (hF.kept u);have Z:=hid (x.kept u);have HLN:=hid T.lens;have HL:=hid hl;have HOK:=hid y;have HN:=hid hn;clear u hF x T hl y z hn;have d:=(λ(W:World) (h:bE W.heap.size W v l)=>Lk.badRun M S v l n W HLN.out HOK.out h HN.out)
 rw[HR.out] at d;have HBR:=hid d;clear hr m B d;go_enter func3,ntmps3;go_wp2_with (first
  | (go_at_call 15;refine(zcC M S _ _).mono ?_;rw[hd];rintro e w7 ⟨rfl,E⟩;have HL7:=hid (bn F.out.low E);clear E)
  | (refine wpList_load_mid U 41 _ U w.heap.size 0 U (D M S) _ F.out.bm.c underlying41 U bV ?_)
  | (go_at_call 12;refine(oB M S1 S _ g.out.so g.out.sm).mono ?_;rintro e w6 ⟨rfl,o⟩;have F:=hid (g.out.kept o);have HR6:=hid (HR5.out.kept o);clear o)
  | (refine Bu.loadG U 41 _ U w1.heap.size 0 U (D M S1) _ g.out.bo.c underlying41 U bV ?_)
  | (refine Bu.loadG U 41 _ U w.heap.size 0 U (D M S) _ g.out.bm.c underlying41 U bV ?_)
  | (go_at_call 11;refine(zbM _ H.out.af).mono ?_;rintro e w5 ⟨rfl,p⟩;have g:=hid (H.out.kept p);have HR5:=hid (HR4.out.kept p);clear p)
  | (go_at_call 10;refine(HBR.out _ q.out.inp').mono ?_;rintro e w4 ⟨rfl,r⟩;have H:=hid (q.out.kept r);have HR4:=hid (HR3.out.kept r);clear r)
  | (refine wpList_load_mid U 41 _ U w.heap.size 0 U (D M S) _ q.out.bm.c underlying41 U bV ?_)
  | (refine wpList_store_mid U 47 _ _ U (w2.heap.size+1) 0 #[.slice a1 n1 c1,.slice a2 n2 c2,.slice a3 n3 c3] U U (I.out.s.there 0 3 (by simp)) jK (jO _ _ _ _ _ _ _ _ _) ?_
     refine Pl.cutL (R3 w2 X SX [.slice a1 n1 c1,.slice a2 n2 c2,.slice a3 n3 c3]) I.out.put ?_;intro Y3 i;have q:=hid (HP2.out.kept i.old);have HR3:=hid (⟨i,HSX.out.kept i.old,HSH.out.kept i.old⟩:LawR w2 X SX (.slice a1 n1 c1) (.slice a2 n2 c2) (.slice a3 n3 c3) ln sm ws Y3);clear i)
  | (refine wpList_store_mid U 41 _ _ U w2.heap.size 0 (D X SX).toArray U U (R3.th1 w2) bV (fG _ _ HIS2.out) ?_
     refine Pl.cutL (R3 w2 X SX nil3) (R3.mk1 w2 X SX) ?_;intro Y2 L;have I:=hid L;clear L)
  | (go_at_call 9;refine(HRUN.out _ _ k.out.so k.out.af k.out.inp').mono ?_;rintro e w2 ⟨X,SX,ln,sm,ws,a1,a2,a3,n1,n2,n3,c1,c2,c3,rfl,t,N,P⟩;have HP2:=hid (k.out.kept P);have HIS2:=hid (jL t);have HSX:=hid t;have HSH:=hid N;clear P t N)
  | (refine wpList_load_mid U 41 _ U w1.heap.size 0 U (D M S1) _ k.out.bo.c underlying41 U bV ?_)
  | (refine wpList_store_mid U 41 _ _ U w1.heap.size 0 (D M S1).toArray U U ((Bx.new w1 (D aE aM) 41 (b:=w1.heap.size) U).there 0 75 (by rw[cy];omega)) bV (fG _ _ HIS1.out) ?_
     refine Pl.cutL (LawB w w1.heap.size M S S1 v l) (LawB.mk1 HL1.out HB1.out HS1.out HO.out HIN1.out HAF1.out HFA1.out) ?_;intro Y1 R;have k:=hid R;clear R)
  | (go_at_call 8;refine(sL M S _ HS.out HL.out).mono ?_;rintro e w1 ⟨S1,rfl,hO,a⟩;have HO:=hid hO.slAt;have HIS1:=hid (jL hO.slAt);have HL1:=hid (bn HQ.out a);have HB1:=hid (HB.out.kept a);have HS1:=hid (HS.out.kept a);have HIN1:=hid (V.out.kept (a.mono HQ.out.size));have HAF1:=hid (Y.out.kept a);have HFA1:=hid (Z.out.kept a);clear hO a)
  | (refine wpList_load_mid U 41 _ U w.heap.size 0 U (D M S) _ HB.out.c underlying41 U bV ?_))
 go_ret;exact⟨U,HL7.out⟩
theorem zsi(M:Mach)(S:Sl)(v:Value)(l:List Inp)(n:Int)(w:World)(hF:AF w)(Z:Facts w)(hs:bM w S M)(hl:∀ j,j<5->(M.byt j).length<=140737488355328)(hok:M.ok)(hin:bE w.heap.size w v l)(hn:-9223372036854775808<=n/\n<=9223372036854775807)(hr:bF M l n=0)(h19:¬ 19000<M.b.f)(X:Mach)(ln:List Lin)(sm:List UInt8)(ws:List Wt)(hkl:ln.length<=1000000/\ws.length<=1000000)(u:nA 9 M X v l n 0 ln sm ws)(y:pj M X v l n ln sm ws):Calls prog 3 #[.agg (D M S).toArray,v,.int .i64 n] w λe w'=>e=.returned (.bool true)/\Below w.heap.size w w':=by
 have hd:decide (19000<M.b.f)=false:=aF h19;have HR:=hid hr;have HRUN:=hid u;have HKL:=hid hkl;have HREF:=hid (λ(W:World)=>y S W (hs.lens) hl);have Y:Below w.heap.size w (w.alloc (.cells (D M S).toArray 41)):=stA (J w) _;have HB:=hid (Bx.new w (D M S) 41 (b:=w.heap.size) U);have HQ:=hid Y;have HS:=hid (hs.kept Y);have HIN:=hid (hin.kept Y);have HAF:=hid (hF.kept Y);have HFA:=hid (Z.kept Y);have HLN:=hid hs.lens;have HL:=hid hl;have HOK:=hid hok;have HN:=hid hn;clear Y hF Z hs hl hok hin hn;have k:=(λ(W:World) (h:bE W.heap.size W v l)=>Lk.badRun M S v l n W HLN.out HOK.out h HN.out)
 rw[HR.out] at k;have HBR:=hid k;clear hr u h19 k hkl y;go_enter func3,ntmps3;go_wp2_with (first
  | (go_at_call 14;refine(Lk.sameShown (.slice a1 n1 c1) (.slice a2 n2 c2) (.slice a3 n3 c3) (.slice b1 m1 d1) (.slice b2 m2 d2) (.slice b3 m3 d3) ln sm ws _ HR10.out.sh HT10.out.sh HKL.out.1 HKL.out.2).mono ?_;rintro e w11 ⟨rfl,hb11⟩;have HL11:=hid (bn HP10.out.low hb11))
  | (go_at_call 12;refine(oB X SX a _ F.out.sx H.out.sx).mono ?_;rintro e w10 ⟨rfl,g⟩;have HP10:=hid (HP9.out.kept g);have HR10:=hid (F.out.kept g);have HT10:=hid (H.out.kept g);have g0:=HR10.out.r.s.at 0 _ U;have g1:=HR10.out.r.s.at 1 _ U;have g2:=HR10.out.r.s.at 2 _ U;have gz:=HR10.out.r.s.z;have s0:=HT10.out.r.s.at 0 _ U;have s1:=HT10.out.r.s.at 1 _ U;have s2:=HT10.out.r.s.at 2 _ U;have sz:=HT10.out.r.s.z;clear g)
  | (refine Bu.loadG U 41 _ U w2.heap.size 0 U (D X SX) _ F.out.r.x.c underlying41 U bV ?_)
  | (refine Bu.loadG U 41 _ U B.heap.size 0 U (D X a) _ H.out.r.x.c underlying41 U bV ?_)
  | (refine wpList_store_mid U 47 _ _ U (B.heap.size+1) 0 #[.slice b1 m1 d1,.slice b2 m2 d2,.slice b3 m3 d3] U U (HY8.out.s.there 0 3 (by simp)) jK (jO _ _ _ _ _ _ _ _ _) ?_
     refine Pl.cutL (R3 B X a [.slice b1 m1 d1,.slice b2 m2 d2,.slice b3 m3 d3]) HY8.out.put ?_;intro Y9 i;have HP9:=hid (HP8.out.kept i.old);have F:=hid (HR8.out.kept i.old);have H:=hid (⟨i,HSX8.out.kept i.old,HSH8.out.kept i.old⟩:LawR B X a (.slice b1 m1 d1) (.slice b2 m2 d2) (.slice b3 m3 d3) ln sm ws Y9);clear i)
  | (refine wpList_store_mid U 41 _ _ U B.heap.size 0 (D X a).toArray U U (R3.th1 B) bV (fG _ _ HIS8.out) ?_
     refine Pl.cutL (R3 B X a nil3) (R3.mk1 B X a) ?_;intro Y8 hY8;have HY8:=hid hY8;clear hY8)
  | (go_at_call 16;refine(HREF.out _ m.out.sm m.out.fa m.out.inp').mono ?_;rintro e B ⟨a,b1,b2,b3,m1,m2,m3,d1,d2,d3,rfl,o,E,I⟩;have HP8:=hid (m.out.kept I);have HR8:=hid (HR7.out.kept I);clear I;have HIS8:=hid (jL o);have HSX8:=hid o;have HSH8:=hid E;clear o E)
  | (refine wpList_load_mid U 41 _ U w.heap.size 0 U (D M S) _ m.out.bm.c underlying41 U bV ?_)
  | (go_at_call 15;refine(zcC M S _ _).mono ?_;rw[hd];rintro e w7 ⟨rfl,L⟩;have m:=hid (HP6.out.kept L);have HR7:=hid (HR6.out.kept L);clear L)
  | (refine wpList_load_mid U 41 _ U w.heap.size 0 U (D M S) _ HP6.out.bm.c underlying41 U bV ?_)
  | (go_at_call 12;refine(oB M S1 S _ p.out.so p.out.sm).mono ?_;rintro e w6 ⟨rfl,N⟩;have HP6:=hid (p.out.kept N);have HR6:=hid (HR5.out.kept N);clear N)
  | (refine Bu.loadG U 41 _ U w1.heap.size 0 U (D M S1) _ p.out.bo.c underlying41 U bV ?_)
  | (refine Bu.loadG U 41 _ U w.heap.size 0 U (D M S) _ p.out.bm.c underlying41 U bV ?_)
  | (go_at_call 11;refine(zbM _ HP4.out.af).mono ?_;rintro e w5 ⟨rfl,P⟩;have p:=hid (HP4.out.kept P);have HR5:=hid (HR4.out.kept P);clear P)
  | (go_at_call 10;refine(HBR.out _ R.out.inp').mono ?_;rintro e w4 ⟨rfl,T⟩;have HP4:=hid (R.out.kept T);have HR4:=hid (HR3.out.kept T);clear T)
  | (refine wpList_load_mid U 41 _ U w.heap.size 0 U (D M S) _ R.out.bm.c underlying41 U bV ?_)
  | (refine wpList_store_mid U 47 _ _ U (w2.heap.size+1) 0 #[.slice a1 n1 c1,.slice a2 n2 c2,.slice a3 n3 c3] U U (HY2.out.s.there 0 3 (by simp)) jK (jO _ _ _ _ _ _ _ _ _) ?_
     refine Pl.cutL (R3 w2 X SX [.slice a1 n1 c1,.slice a2 n2 c2,.slice a3 n3 c3]) HY2.out.put ?_;intro Y3 q;have R:=hid (HP2.out.kept q.old);have HR3:=hid (⟨q,HSX.out.kept q.old,HSH.out.kept q.old⟩:LawR w2 X SX (.slice a1 n1 c1) (.slice a2 n2 c2) (.slice a3 n3 c3) ln sm ws Y3);clear q)
  | (refine wpList_store_mid U 41 _ _ U w2.heap.size 0 (D X SX).toArray U U (R3.th1 w2) bV (fG _ _ HIS2.out) ?_
     refine Pl.cutL (R3 w2 X SX nil3) (R3.mk1 w2 X SX) ?_;intro Y2 hY2;have HY2:=hid hY2;clear hY2)
  | (go_at_call 9;refine(HRUN.out _ _ t.out.so t.out.af t.out.inp').mono ?_;rintro e w2 ⟨SX,a1,a2,a3,n1,n2,n3,c1,c2,c3,rfl,V,hsh,hb2⟩;have HP2:=hid (t.out.kept hb2);have HIS2:=hid (jL V);have HSX:=hid V;have HSH:=hid hsh;clear hb2 V hsh)
  | (refine wpList_load_mid U 41 _ U w1.heap.size 0 U (D M S1) _ t.out.bo.c underlying41 U bV ?_)
  | (refine wpList_store_mid U 41 _ _ U w1.heap.size 0 (D M S1).toArray U U ((Bx.new w1 (D aE aM) 41 (b:=w1.heap.size) U).there 0 75 (by rw[cy];omega)) bV (fG _ _ HIS1.out) ?_
     refine Pl.cutL (LawB w w1.heap.size M S S1 v l) (LawB.mk1 HL1.out HB1.out HS1.out HO.out HIN1.out HAF1.out HFA1.out) ?_;intro Y1 hY1;have t:=hid hY1;clear hY1)
  | (go_at_call 8;refine(sL M S _ HS.out HL.out).mono ?_;rintro e w1 ⟨S1,rfl,hO,d⟩;have HO:=hid hO.slAt;have HIS1:=hid (jL hO.slAt);have HL1:=hid (bn HQ.out d);have HB1:=hid (HB.out.kept d);have HS1:=hid (HS.out.kept d);have HIN1:=hid (HIN.out.kept (d.mono HQ.out.size));have HAF1:=hid (HAF.out.kept d);have HFA1:=hid (HFA.out.kept d);clear hO d)
  | (refine wpList_load_mid U 41 _ U w.heap.size 0 U (D M S) _ HB.out.c underlying41 U bV ?_))
 go_ret;exact⟨U,HL11.out⟩
end Go.Proofs.YthghjlinhokimaaGreatDoor
