/-
  Parts of a proof, joined.
-/
import Derived.Test.YthghjlinhokimaaGreatDoorZbA
import Derived.Test.YthghjlinhokimaaGreatDoorZbLockRun03
import Derived.Test.YthghjlinhokimaaGreatDoorZbLockRun04
import Derived.Test.YthghjlinhokimaaGreatDoorZb43
set_option linter.all false
set_option maxRecDepth 100000
set_option maxHeartbeats 6400000
open Option renaming none->G,some->A
open Go renaming World->u,Value->π,Calls->Δ
open Bool renaming false->ξ,true->Γ
open Go.Proofs.Tryz renaming prog->ω
open Go.Act renaming put->ag
open Go.Result renaming andThen->aE
open Go.Value renaming int->J,slice->κ,bool->ν,tuple->Ψ,agg->ac
open Go.IntKind renaming i64->Q
open Go.Ending renaming returned->μ
open Go.Obj renaming cells->χ
namespace Go.Proofs.YthghjlinhokimaaGreatDoor
open Go.ChangeShapes Go.WideShapes Go.ChangeAt Go.RowKit Go.Proofs.Tryz
theorem zka{M:Mach}{l:List Inp}{n:Int}(h1:M.chk=0)(h2:chkIn l M.clock=0)(h:¬ (0<=n/\n<=20000/\M.clock+n<=200000)):bS M l n=3:=by
 unfold bS;rw[am h1,am h2,ae h]
theorem zfV{M:Mach}{l:List Inp}{n:Int}(h1:M.chk=0)(h2:chkIn l M.clock=0)(h:0<=n/\n<=20000/\M.clock+n<=200000):bS M l n=0:=by
 unfold bS;rw[am h1,am h2,am h]
theorem Lk.badRun(M:Mach)(S:Sl)(v:π)(l:List Inp)(n:Int)(w:u)(N:S.lens M)(q:M.ok)(r:bP w.heap.size w v l)(X:-9223372036854775808<=n/\n<=9223372036854775807):Δ ω 10 #[ac (υ M S).toArray,v,J Q n,J Q 20000] w λe w'=>e=μ (J Q (bS M l n))/\Below w.heap.size w w':=by
 have x:Below w.heap.size w (w.alloc (χ (υ M S).toArray 41)):=stA (aR w) _;have o:=hid (Bx.new w (υ M S) 41 (b:=w.heap.size) D);have p:=hid ((r.kept x).mono x.size);have F:=hid N;have Z:w.heap.size<(w.alloc (χ (υ M S).toArray 41)).heap.size:=by simp
 by_cases hc:M.chk=0
 ·have R:=wA q hc
  have U:=R.clock;have s:=hid hc;by_cases hi:chkIn l M.clock=0
  ·have y:=hid hi
   clear hc hi r N q R;by_cases H:n<0
   ·have m:=zka s.out y.out (n:=n) (by omega)
    rw[m];have d1:decide (n<0)=Γ:=aO H;clear m H;go_enter func10,ntmps10;go_wp2_with (first
     | (refine wpList_load_mid D 41 _ D w.heap.size 0 D (υ M S) _ o.out.c underlying41 D cn ?_)
     | (go_at_call 35;refine(tP M S _ F.out).mono ?_;rw[s.out];rintro e w1 ⟨rfl,a⟩;have d:=hid (o.out.kept a);have g:=hid (bw x a);have j:=hid ((p.out.kept a).mono a.size);have t:=d.out.at 72 (J Q M.clock) D;have P:=d.out.z;clear a)
     | (go_at_call 21;refine(Lk.rcheck l v _ M.clock _ j.out (ψ _)).mono ?_;rw[y.out];rintro e w2 ⟨rfl,f⟩;have i:=hid (d.out.kept f);have k:=hid (bw g.out f);have B:=i.out.at 72 (J Q M.clock) D;have T:=i.out.z;clear f))
    go_ret;exact⟨D,k.out⟩
   ·have d1:decide (n<0)=ξ:=aG H
    by_cases h2:20000<n
    ·have m:=zka s.out y.out (n:=n) (by omega)
     rw[m];have d2:decide (20000<n)=Γ:=aO h2;clear m H h2;go_enter func10,ntmps10;go_wp2_with (first
      | (refine wpList_load_mid D 41 _ D w.heap.size 0 D (υ M S) _ o.out.c underlying41 D cn ?_)
      | (go_at_call 35;refine(tP M S _ F.out).mono ?_;rw[s.out];rintro e w1 ⟨rfl,a⟩;have d:=hid (o.out.kept a);have g:=hid (bw x a);have j:=hid ((p.out.kept a).mono a.size);have t:=d.out.at 72 (J Q M.clock) D;have P:=d.out.z;clear a)
      | (go_at_call 21;refine(Lk.rcheck l v _ M.clock _ j.out (ψ _)).mono ?_;rw[y.out];rintro e w2 ⟨rfl,f⟩;have i:=hid (d.out.kept f);have k:=hid (bw g.out f);have B:=i.out.at 72 (J Q M.clock) D;have T:=i.out.z;clear f))
     go_ret;exact⟨D,k.out⟩
    ·have d2:decide (20000<n)=ξ:=aG h2
     have V:0<=n:=by omega
     have W:n<=20000:=by omega
     by_cases h4:200000<M.clock+n
     ·have m:=zka s.out y.out (n:=n) (by omega)
      rw[m];have d3:decide (200000<M.clock+n)=Γ:=aO h4;clear m H h2 h4;go_enter func10,ntmps10;go_wp2_with (first
       | (refine wpList_load_mid D 41 _ D w.heap.size 0 D (υ M S) _ o.out.c underlying41 D cn ?_)
       | (go_at_call 35;refine(tP M S _ F.out).mono ?_;rw[s.out];rintro e w1 ⟨rfl,a⟩;have d:=hid (o.out.kept a);have g:=hid (bw x a);have j:=hid ((p.out.kept a).mono a.size);have t:=d.out.at 72 (J Q M.clock) D;have P:=d.out.z;clear a)
       | (go_at_call 21;refine(Lk.rcheck l v _ M.clock _ j.out (ψ _)).mono ?_;rw[y.out];rintro e w2 ⟨rfl,f⟩;have i:=hid (d.out.kept f);have k:=hid (bw g.out f);have B:=i.out.at 72 (J Q M.clock) D;have T:=i.out.z;clear f))
      go_ret;exact⟨D,k.out⟩
     ·have m:=zfV s.out y.out (n:=n) (by omega)
      rw[m];have d3:decide (200000<M.clock+n)=ξ:=aG h4;clear m H h2 h4;go_enter func10,ntmps10;go_wp2_with (first
       | (refine wpList_load_mid D 41 _ D w.heap.size 0 D (υ M S) _ o.out.c underlying41 D cn ?_)
       | (go_at_call 35;refine(tP M S _ F.out).mono ?_;rw[s.out];rintro e w1 ⟨rfl,a⟩;have d:=hid (o.out.kept a);have g:=hid (bw x a);have j:=hid ((p.out.kept a).mono a.size);have t:=d.out.at 72 (J Q M.clock) D;have P:=d.out.z;clear a)
       | (go_at_call 21;refine(Lk.rcheck l v _ M.clock _ j.out (ψ _)).mono ?_;rw[y.out];rintro e w2 ⟨rfl,f⟩;have i:=hid (d.out.kept f);have k:=hid (bw g.out f);have B:=i.out.at 72 (J Q M.clock) D;have T:=i.out.z;clear f))
      go_ret;exact⟨D,k.out⟩
  ·have m:bS M l n=chkIn l M.clock:=by unfold bS;rw[am hc,ae hi]
   have E:(chkIn l M.clock != 0)=Γ:=by simpa using hi
   rw[m];have I:=hid (λ(w1:u) (h:bP w1.heap.size w1 v l)=>Lk.rcheck l v _ M.clock w1 h (ψ _));generalize chkIn l M.clock=c at E I;clear hc hi r N q R m;go_enter func10,ntmps10;go_wp2_with (first
    | (refine wpList_load_mid D 41 _ D w.heap.size 0 D (υ M S) _ o.out.c underlying41 D cn ?_)
    | (go_at_call 35;refine(tP M S _ F.out).mono ?_;rw[s.out];rintro e w1 ⟨rfl,a⟩;have d:=hid (o.out.kept a);have g:=hid (bw x a);have j:=hid ((p.out.kept a).mono a.size);have t:=d.out.at 72 (J Q M.clock) D;have P:=d.out.z;clear a)
    | (go_at_call 21;refine(I.out _ j.out).mono ?_;rintro e w2 ⟨rfl,f⟩;have k:=hid (bw g.out f);clear f))
   go_ret;exact⟨D,k.out⟩
 ·have m:bS M l n=M.chk:=by unfold bS;rw[ae hc]
  have E:(M.chk != 0)=Γ:=by simpa using hc
  rw[m];have L:=hid (λ(w1:u)=>tP M S w1 F.out);generalize M.chk=c at E L;clear hc r N q m;go_enter func10,ntmps10;go_wp2_with (first
   | (refine wpList_load_mid D 41 _ D w.heap.size 0 D (υ M S) _ o.out.c underlying41 D cn ?_)
   | (go_at_call 35;refine(L.out _).mono ?_;rintro e w1 ⟨rfl,a⟩;have g:=hid (bw x a);clear a))
  go_ret;exact⟨D,g.out⟩
section
variable {F : Gx} {N ob : Nat} {vl vs : π} {w w1 : u} {s s' : Bst} {ln : List Lin} {sm : List UInt8} {M : Mach}
variable {W W1 : u}
theorem GV.trans{vl' vs':π}{s':Bst}{ln':List Lin}{sm':List UInt8}{g:u}(h:GV F N ob vl vs w s ln sm W)(h2:GV F N ob vl' vs' W s' ln' sm' g):GV F N ob vl' vs' w s' ln' sm' g :=
 ⟨h2.c,h.b.trans h2.b,λk d=>by
   obtain⟨e,e1,e2⟩:=h.q k d;have f:Kpt N ob W k:=⟨d.n,by obtain⟨cs,t,fr,e3,i⟩:=d.t;exact⟨cs,t,fr,e.trans e3,i⟩,λθ a=>by rw[Lib.cell_of_heap h.c.ob 0] at a;cases a;exact e1,λθ a=>by rw[Lib.cell_of_heap h.c.ob 1] at a;cases a;exact e2⟩
   obtain⟨g0,g1,j⟩:=h2.q k f;exact⟨g0.trans e,g1,j⟩⟩
end
section
variable {F : Gx} {N ob : Nat} {vl vs v : π} {w W W1 : u} {inp : List Inp} {k : Cs}
structure GR (F : Gx) (N ob : Nat) (w w0 : u) (k : Cs) (W : u) : Prop where
 g:∃ vl vs,GV F N ob vl vs w0 k.s k.ln k.sm W
 r:RR w (υ aD aP) [κ G 0 0,κ G 0 0,κ G 0 0] W
structure GE (F : Gx) (N ob : Nat) (w : u) (k : Cs) (vl vs vw : π) (L1 L2 : List π) (ι : u) : Prop where
 r:RR w L1 L2 ι
 gd:Gd F ι k.s.M ⟨k.s.n,k.s.l,vw⟩
 o:Bx ι ob [vl,vs,vw]
 ln:ι.ownsRow N 68 18 vl k.ln.length (nj k.ln)
 sm:ι.ownsRow N 5 1 vs k.sm.length (gJ k.sm)
 lo:∀ k,F.all k->F.B<=k
 z:w.heap.size+3<=F.B/\F.B<=N/\N<=ob
theorem GE.s{L1 L2:List π}{vw:π}(h:GE F N ob w k vl vs vw L1 L2 W):W.rangeAt F.g 0 (υ k.s.M F.S)/\W.rangeAt ob 0 [vl,vs,vw]:=⟨h.gd.row,h.o.c⟩
theorem GE.kept{L1 L2:List π}{vw:π}(h:GE F N ob w k vl vs vw L1 L2 W)(hb:Below W.heap.size W W1):GE F N ob w k vl vs vw L1 L2 W1 :=
 ⟨h.r.kept hb,h.gd.kept hb,h.o.kept hb,jr h.ln (λj e=>hb.block j (jE h.ln j e).2.1),jr h.sm (λj e=>hb.block j (jE h.sm j e).2.1),h.lo,h.z⟩
theorem GE.puts{L1 L2 a c:List π}{vw:π}(h:GE F N ob w k vl vs vw L1 L2 W)(b:Nat)(hb:b<F.B)(L:List π)(d:RR w a c (W.setCells b 0 L)):GE F N ob w k vl vs vw a c (W.setCells b 0 L):=by
 obtain⟨i,z2,z3⟩:=h.z
 exact⟨d,h.gd.of_same (cq (pN _ _ _ _).symm) (λj _ f=>ji (by have:=h.lo j f;omega) _ _ _) (λj g=>ji (by have:=(jE h.gd.ws j g).1;omega) _ _ _),DW.bb h.o (by omega),
  jr h.ln (λj e=>ji (by have:=(jE h.ln j e).1;omega) _ _ _),jr h.sm (λj e=>ji (by have:=(jE h.sm j e).1;omega) _ _ _),h.lo,h.z⟩
theorem GE.put1{L2:List π}{vw:π}(h:GE F N ob w k vl vs vw (υ aD aP) L2 W):GE F N ob w k vl vs vw (υ k.s.M F.S) L2 (W.setCells (w.heap.size+1) 0 (υ k.s.M F.S)):=by
 obtain⟨b,z2,z3⟩:=h.z;have a:=h.r.b1.puts 0 (υ k.s.M F.S) (by rw[dG,dG];omega);rw[mK _ _ (by rw[dG,dG])] at a;exact h.puts _ (by omega) _ ⟨ni h.r.low (by omega) _ _,a,DW.bb h.r.b2 (by omega)⟩
theorem GE.put2{L1:List π}{vw x y z:π}(h:GE F N ob w k vl vs vw L1 [x,y,z] W):GE F N ob w k vl vs vw L1 [vl,vs,vw] (W.setCells (w.heap.size+2) 0 [vl,vs,vw]):=by
 obtain⟨b,z2,z3⟩:=h.z;have a:=h.r.b2.puts 0 [vl,vs,vw] (by simp);rw[mK _ _ (by simp)] at a;exact h.puts _ (by omega) _ ⟨ni h.r.low (by omega) _ _,DW.bb h.r.b1 (by omega),a⟩
theorem GE.of{L1 L2:List π}{vw:π}{w0:u}(b:GK F N ob)(h:GV F N ob vl vs w0 k.s k.ln k.sm W)(r:RR w L1 L2 W)(p:Gd F W k.s.M ⟨k.s.n,k.s.l,vw⟩)(g:∀ k,F.all k->F.B<=k)(q:w.heap.size+3<=F.B):GE F N ob w k vl vs vw L1 L2 (W.setCell ⟨ob,2,G⟩ vw):=by
 have a:=h.c.ob;have far:∀ j,j≠ob->(W.setCell ⟨ob,2,G⟩ vw).heap[j]?=W.heap[j]?:=λj d=>f8 d
 have hB:=b.B;have i:Below F.B W (W.setCell ⟨ob,2,G⟩ vw):=Pl.below (ax hB b.ob) [vw] 2 W ((aR W).mono h.c.big);have e:(W.setCell ⟨ob,2,G⟩ vw).heap[ob]?=A (χ ([vl,vs,vw]:List π).toArray 47 (0,0)):=vN a vw
 refine⟨r.far q i,p.of_same (by simp) (λj _ t=>far j (by have:=b.all j t;have:=b.ob;omega)) (λj d=>far j (λf=>?_)),⟨(aa.1 e).1,λj v d=>(Lib.cell_of_heap e (0+j)).trans (by rw[aX,ch];exact d),λo=>Lib.frozen_of_heap e o⟩,
  jr h.c.ln (λj m=>far j (λf=>?_)),jr h.c.sm (λj m=>far j (λf=>?_)),g,q,hB,b.ob⟩
 ·obtain⟨cs,fr,e2⟩:=p.wty j d
  subst f;rw[a] at e2;simp only[aZ,eJ] at e2;exact absurd e2.2.1 (by decide)
 ·subst f;exact mL h.c.ln a (by decide) m
 ·subst f;exact mL h.c.sm a (by decide) m
theorem Rk.run(M:Mach)(S:Sl)(v:π)(n:Nat)(w:u)(hs:cf w S M)(hsz:∀ j,j<5->(M.byt j).length<=140737488355328)(hF:Facts w)(hg:1<w.heap.size/\0<w.heap.size/\2<w.heap.size)(hin:bP w.heap.size w v inp)(hf:M.fit)(hok:∀ x∈inp,x.ok)(hli:inp.length<=40)(hc:chkIn inp M.clock=0)(hn:n<=200000)
 (hm:∀ j,j<n->(Cs.clocks ⟨⟨M,0,[]⟩,inp,[],[]⟩ j).may) :
 Δ ω 16 #[ac (υ M S).toArray,v,J Q n] w λe w'=>∃(F:Gx) (N:Nat) (vl vs vw:π),e=μ (Ψ #[ac (υ (Cs.clocks ⟨⟨M,0,[]⟩,inp,[],[]⟩ n).s.M F.S).toArray,ac #[vl,vs,vw]])/\cf w' F.S (Cs.clocks ⟨⟨M,0,[]⟩,inp,[],[]⟩ n).s.M/\(Cs.clocks ⟨⟨M,0,[]⟩,inp,[],[]⟩ n).s.M.fit /\
  w'.ownsRow N 68 18 vl (Cs.clocks ⟨⟨M,0,[]⟩,inp,[],[]⟩ n).ln.length (nj (Cs.clocks ⟨⟨M,0,[]⟩,inp,[],[]⟩ n).ln)/\w'.ownsRow N 5 1 vs (Cs.clocks ⟨⟨M,0,[]⟩,inp,[],[]⟩ n).sm.length (gJ (Cs.clocks ⟨⟨M,0,[]⟩,inp,[],[]⟩ n).sm) /\
  w'.ownsRow F.B 104 3 vw (Cs.clocks ⟨⟨M,0,[]⟩,inp,[],[]⟩ n).s.l.length (oC (Cs.clocks ⟨⟨M,0,[]⟩,inp,[],[]⟩ n).s.l)/\w.heap.size<=F.B/\Below w.heap.size w w':=by
 obtain⟨k0,p⟩:∃ k0:Cs,k0=⟨⟨M,0,[]⟩,inp,[],[]⟩:=⟨_,D⟩
 rw[<- p] at hm ⊢;have HD0:=hid (by rw[p];exact vV.of hc:vV inp k0);have HK0:=hid p;have hBm:=Bx.new w (υ M S) 41 (b:=w.heap.size) D;have hW:Below w.heap.size w (((w.alloc (χ (υ M S).toArray 41)).alloc (χ (υ aD aP).toArray 41)).alloc (χ #[κ G 0 0,κ G 0 0,κ G 0 0] 47)):=stA (stA (stA (aR w) _) _) _;have HRR:Hid (RR w (υ aD aP) [κ G 0 0,κ G 0 0,κ G 0 0] (((w.alloc (χ (υ M S).toArray 41)).alloc (χ (υ aD aP).toArray 41)).alloc (χ #[κ G 0 0,κ G 0 0,κ G 0 0] 47))) :=
  ⟨hW,(Bx.new (w.alloc (χ (υ M S).toArray 41)) (υ aD aP) 41 (b:=w.heap.size+1) (by simp)).over _,Bx.new ((w.alloc (χ (υ M S).toArray 41)).alloc (χ (υ aD aP).toArray 41)) [κ G 0 0,κ G 0 0,κ G 0 0] 47 (b:=w.heap.size+2) (by simp)⟩
 have HBM:=hid ((hBm.over (χ (υ aD aP).toArray 41)).over (χ #[κ G 0 0,κ G 0 0,κ G 0 0] 47));have HS:=hid (hs.kept hW);have HFX:=hid (hF.kept hW);have HIN:=hid ((hin.kept hW));have HG:=hid hg;have HF:=hid hf;have HSZ:=hid hsz;have HM:=hid hm;have HOK:=hid hok;have HLI:=hid hli;have HN:=hid hn;clear hs hF hin hf hok hc hn hm hBm hW p hg hsz hli;go_enter func16,ntmps16;go_upto_region 3 with(first
  | (refine wpList_load_mid D 41 _ D w.heap.size 0 D (υ M S) _ HBM.out.c underlying41 D cn ?_)
  | (go_at_call 8;refine(wB M S _ HS.out HSZ.out).mono ?_;rintro e w1 ⟨S1,rfl,hO,R⟩;have HO:Hid (OwnS (w.heap.size+5) S1 M w1):=hid (by simpa using hO);have HR1:=hid (HRR.out.kept R);have q:=hid R;clear hO R)
  | (refine zcX D 107 0 _ D (ac (υ M S1).toArray) _ D (xq M S1 _) ?_))
 have hB1:w.heap.size+5<=w1.heap.size:=by
  obtain⟨kk,cap,_,_,hBk,hbx,_⟩:=HO.out.own 0 (by omega);have:=hbx.z;omega
 obtain⟨F,T,hFg,hlo,hGK,U⟩:=zyg HO.out HF.out hB1 (HFX.out.kept q.out) (by have:=HG.out;omega) 107;obtain⟨w2,t⟩:∃ w2,w2=((w1.alloc (χ (υ M S1++sj).toArray 107)).alloc (χ #[κ G 0 0,κ G 0 0,κ G 0 0] 47)):=⟨_,D⟩
 rw[<- t] at U;have W:Below w1.heap.size w1 w2:=by rw[t];exact stA (stA (aR w1) _) _
 have HR2:=hid (HR1.out.kept W)
 have HIN2:Hid (bP F.B w2 v inp):=hid (by
  rw[T];exact(((HIN.out.kept (q.out.mono (by simp <;> omega))).kept (W.mono (by omega))).mono (by omega)))
 have HGK:=hid hGK;have HLO:=hid hlo;have HGC:=hid U;have HFB:=hid T;rw[<- hFg] at *;clear hGK U hlo W HBM HRR HS HFX HIN HR1 q HO hB1 T;have HGR0:Hid (GR F (F.g+1) (F.g+1) w w2 k0 w2):=hid ⟨⟨_,_,GV.start (by rw[HK0.out];exact HGC.out)⟩,HR2.out⟩;have HW2:=hid t;refine Pl.cutW (GR F (F.g+1) (F.g+1) w w2 k0) (by rw[<- HW2.out];exact HGR0.out) ?_;intro ι hY;have y:=hid hY;clear hY t HGC HR2 HGR0;have I:w.heap.size+3<=F.B:=by have:=HFB.out;omega
 have HFB3:=hid I;clear I;go_wp2;go_loopw [15] (λi wr=>∃ j:Nat,j<=n/\i=J Q j/\GR F (F.g+1) (F.g+1) w w2 (k0.clocks j) wr) (λi _=>n-(intOf i).toNat)
 case atStart=>exact⟨0,bh _,D,y.out⟩
 case round =>
  obtain⟨j,hj,rfl,hX⟩:=hrel;obtain⟨⟨a,d,hG⟩,hR⟩:=hX;have f:=hid hG;have HR:=hid hR;clear y hG hR;by_cases E:j<n
  ·have HLT:=hid E
   have hjl:(j:Int)<n:=by omega
   have hj0:(0:Int)<=j:=by omega
   have hjb:(j:Int)<200000:=by have:=HN.out;omega
   have HNX:=hid (zyf HGK.out f.out.c (HIN2.out.kept f.out.b) HOK.out HLI.out (HD0.out.clocks j) (HM.out j E));go_wp2_with (go_at_call 41;refine HNX.out.mono ?_;rintro e w4 ⟨rfl,vl2,vs2,X⟩;have HX2:Hid (GR F (F.g+1) (F.g+1) w w2 (k0.clocks (j+1)) w4):=hid ⟨⟨vl2,vs2,f.out.trans X⟩,HR.out.far HFB3.out X.b⟩;clear X)
   go_roundw
   case rel=>exact⟨j+1,HLT.out,by go_num,HX2.out⟩
   case measure=>have E:=HLT.out;simp[intOf];omega
  ·have hjn:j=n:=by omega
   subst hjn;have hnl:¬ (j:Int)<j:=by omega
   obtain⟨k,hk⟩:∃ k,k=k0.clocks j:=⟨_,D⟩
   rw[<- hk] at f;have m:=hid hk;obtain⟨vw,h⟩:=f.out.c.gd;obtain⟨o,nw,cw,ew0⟩:=ol h.ws;have ew:vw=κ o nw cw:=ew0;clear ew0;subst ew;have m75:=h.at 75 (κ o nw cw) D;have o2:=Lib.cell_of_heap f.out.c.ob 2;have of:=λi=>Lib.frozen_of_heap f.out.c.ob i
   have oz:=f.out.c.lt;have gz:=h.bx.z;have HE:=hid (GE.of HGK.out f.out HR.out h HLO.out HFB3.out);have HSI:Hid F.S.isSl:=hid h.isSl;have q:Hid (F.B<=F.g):=hid h.nd.lo.1;clear h hk E;go_upto_region 8 with fail
   refine Pl.cutW (GE F (F.g+1) (F.g+1) w k a d (κ o nw cw) (υ aD aP) [κ G 0 0,κ G 0 0,κ G 0 0]) HE.out ?_;intro Y1 hY1;have y:=hid (hY1.kept (aR Y1).drew);clear hY1 HE m75 o2 of oz gz f HR;refine wp_region_held_drew (S:=λw'=>w'.rangeAt F.g 0 (υ k.s.M F.S)/\w'.rangeAt (F.g+1) 0 [a,d,κ o nw cw]) (by kernel_rfl) (y.out.s) ?_;intro hS;refine dy 0 ⟨A 26,_,_,_,_,G⟩ hS ?_;simp only[ag,xA,xB,xC];refine dy 1 ⟨A 27,_,_,_,_,G⟩ hS ?_;simp only[ag,xA,xB,xC];refine dy 2 ⟨A 28,_,_,_,_,G⟩ hS ?_;simp only[ag,xA,xB,xC];refine jW 3 (ac (υ k.s.M F.S).toArray) D (λw' Z=>ml 41 _ D F.g 0 D (υ k.s.M F.S) _ Z.1 underlying41 D cn) hS ?_;refine jW 4 (ac ([a,d,κ o nw cw]:List π).toArray) D (λw' Z=>ml 47 _ D (F.g+1) 0 D ([a,d,κ o nw cw]) _ Z.2 underlying47 D kX) hS ?_;have H:=hid y.out.put1;refine tK (i:=5) (op:=⟨G,_,_,_,_,G⟩) (by kernel_rfl) D D 41 _ _ D (w.heap.size+1) 0 (υ k.s.M F.S).toArray D D (y.out.r.b1.there 0 75 (by rw[dG];omega)) cn (iq _ _ HSI.out) H.out.s ?_
   have HY2:=hid H.out.put2;have hth:=H.out.r.b2.there 0 3 (by simp);obtain⟨al,nl,cl,el⟩:=ol y.out.ln;obtain⟨aS,nS,cS,es⟩:=ol y.out.sm;have L:(([a,d,κ o nw cw]:List π)).toArray.all (·.oneCell')=Γ:=by rw[el,es];simp[Value.oneCell']
   have hss:=HY2.out.s;clear hS;refine tK (i:=6) (op:=⟨G,_,_,_,_,G⟩) (by kernel_rfl) D D 47 _ _ D (w.heap.size+2) 0 #[a,d,κ o nw cw] D D hth kX L hss ?_;refine wpAnyH_done (by kernel_rfl) ?_ _;refine Pl.cutE (GE F (F.g+1) (F.g+1) w k a d (κ o nw cw) (υ k.s.M F.S) [a,d,κ o nw cw]) HY2.out ?_;intro V hV;have P:=hid hV;clear hV y H HY2 hth L hss el es;go_wp2;refine Ξ (v:=Ψ #[ac (υ k.s.M F.S).toArray,ac #[a,d,κ o nw cw]]) ?_ D ⟨F,F.g+1,a,d,κ o nw cw,by rw[<- m.out],by rw[<- m.out];exact P.out.gd.slAt,by rw[<- m.out];exact P.out.gd.fit,by rw[<- m.out];exact P.out.ln,by rw[<- m.out];exact P.out.sm,by rw[<- m.out];exact P.out.gd.ws,by have:=HFB3.out;omega,P.out.r.low⟩;have l1:=run_loadVar_mid V (w.heap.size+1) 0 41 _ _ P.out.r.b1.c underlying41 D cn;have l2:=run_loadVar_mid V (w.heap.size+2) 0 47 _ _ P.out.r.b2.c underlying47 D kX;simp only[results,results16];simp;show (aE (Sem.run ω (loadVar 41 ⟨w.heap.size+1,0,G⟩) V) _)=_
   rw[l1];show (aE (Sem.run ω (loadVar 47 ⟨w.heap.size+2,0,G⟩) V) _)=_;rw[l2];rfl
end
theorem zot(s:Bst)(h:s.l.length<=1000000):s.stepAux.l.length<=s.l.length+4:=by
 unfold Bst.stepAux;split
 ·omega
 ·have c:=C.fuel_step (m:=cL) (λs a=>ψ _) (λs a b=>by
   have:=zjQ s.M a (b%256);show 1000000001-s.l.length<=1000000001-(s.l++s.M.shA a (b%256)).length+1;rw[az];omega) s.M.aux s s.M.rung
  have d:1000000001-s.l.length<=1000000001-(C.step cL s.M.aux s s.M.rung).s.l.length+4:=c;show (C.step cL s.M.aux s s.M.rung).s.l.length<=_;omega
theorem zdL(k0:Cs)(a:k0.ln=[]/\k0.sm=[]/\k0.s.l=[]):∀ j:Nat,j<=20000->(k0.clocks j).ln.length<=j/\(k0.clocks j).sm.length<=j/\(k0.clocks j).s.l.length<=4*j
 | 0,_=>⟨by show k0.ln.length<=0;rw[a.1];simp,by show k0.sm.length<=0;rw[a.2.1];simp,by show k0.s.l.length<=4*0;rw[a.2.2];simp⟩
 | j+1,d=>by
  obtain⟨c,i2,i3⟩:=zdL k0 a j (by omega);obtain⟨k,b⟩:∃ k,k=k0.clocks j:=⟨_,D⟩
  have e:k0.clocks (j+1)=k.clock:=by rw[b];rfl
  rw[<- b] at c i2 i3;rw[e];refine⟨?_,?_,?_⟩
  ·show (k.ln++(k.s.M.pressed k.co).line).length<=_
   have:=zj8 (k.s.M.pressed k.co);rw[az];omega
  ·show (k.sm++(k.s.M.pressed k.co).sample).length<=_
   have:=AU (k.s.M.pressed k.co);rw[az];omega
  ·show ((Bst.stepMain ⟨k.s.M.pressed k.co,k.s.n,k.s.l⟩).stepAux).l.length<=_
   have h1:(Bst.stepMain ⟨k.s.M.pressed k.co,k.s.n,k.s.l⟩).l=k.s.l:=zQ _;have h2:=zot (Bst.stepMain ⟨k.s.M.pressed k.co,k.s.n,k.s.l⟩) (by rw[h1];omega);rw[h1] at h2;omega
structure LawB (w : u) (b1 : Nat) (M : Mach) (S S1 : Sl) (v : π) (l : List Inp) (ι : u) : Prop where
 low:Below w.heap.size w ι
 bm:Bx ι w.heap.size (υ M S)
 bo:Bx ι b1 (υ M S1)
 sm:cf ι S M
 so:cf ι S1 M
 inp:bP w.heap.size ι v l
 af:AF ι
 fa:Facts ι
structure LawR (w5 : u) (X : Mach) (SX : Sl) (p1 p2 p3 : π) (ln : List Lin) (sm : List UInt8) (ws : List Wt) (ι : u) : Prop where
 r:R3 w5 X SX [p1,p2,p3] ι
 sx:cf ι SX X
 sh:ShAt ι p1 p2 p3 ln sm ws
section
variable {w w1 ι Y' : u} {b1 : Nat} {M X : Mach} {S S1 SX : Sl} {v p1 p2 p3 : π} {l : List Inp} {ln : List Lin} {sm : List UInt8} {ws : List Wt}
theorem LawB.kept(h:LawB w b1 M S S1 v l ι)(hb:Below ι.heap.size ι Y'):LawB w b1 M S S1 v l Y' :=
 ⟨bw h.low hb,h.bm.kept hb,h.bo.kept hb,h.sm.kept hb,h.so.kept hb,h.inp.kept (hb.mono h.low.size),h.af.kept hb,h.fa.kept hb⟩
theorem LawB.mk1(c:Below w.heap.size w w1)(d:Bx w1 w.heap.size (υ M S))(e:cf w1 S M)(f:cf w1 S1 M)(a:bP w.heap.size w1 v l)(g:AF w1)(h:Facts w1):LawB w w1.heap.size M S S1 v l ((w1.alloc (χ (υ aD aP).toArray 41)).setCells w1.heap.size 0 (υ M S1)):=by
 have hb:Below w1.heap.size w1 ((w1.alloc (χ (υ aD aP).toArray 41)).setCells w1.heap.size 0 (υ M S1)):=ni (stA (aR w1) _) (ψ _) _ _;have h1:=(Bx.new w1 (υ aD aP) 41 (b:=w1.heap.size) D).puts 0 (υ M S1) (by rw[dG,dG];omega);rw[mK _ _ (by rw[dG,dG])] at h1;exact⟨bw c hb,d.kept hb,h1,e.kept hb,f.kept hb,a.kept (hb.mono c.size),g.kept hb,h.kept hb⟩
theorem LawB.inp'(h:LawB w b1 M S S1 v l ι):bP ι.heap.size ι v l:=h.inp.mono h.low.size
theorem LawR.kept(h:LawR w1 X SX p1 p2 p3 ln sm ws ι)(hb:Below ι.heap.size ι Y'):LawR w1 X SX p1 p2 p3 ln sm ws Y':=⟨h.r.kept hb,h.sx.kept hb,h.sh.kept hb⟩
theorem wF(V:u):cf V aP aD:=λj a=>by
 have hc:j=0 \/ j=1 \/ j=2 \/ j=3 \/ j=4:=by omega
 rcases hc with rfl|rfl|rfl|rfl|rfl <;> exact Or.inl ⟨G,0,D,D⟩
theorem sH(V:u):ShAt V (κ G 0 0) (κ G 0 0) (κ G 0 0) [] [] []:=⟨⟨D,Or.inl ⟨D,G,0,D⟩⟩,Or.inl ⟨G,0,D,D⟩,⟨D,Or.inl ⟨D,G,0,D⟩⟩⟩
theorem zqr{F:Fx}{N:Nat}{k:Cs}{vln vsm vw:π}{w:u}(h:Told F N k vln vsm vw w):ShAt w vln vsm vw k.ln k.sm k.s.l:=⟨vU h.ln,zda h.sm,vU h.ws⟩
end
theorem yw(w:u):Δ ω 13 #[ac (υ aD aP).toArray] w λe w'=>e=μ (ν Γ)/\Below w.heap.size w w':=by
 have d:=hid (Bx.new w (υ aD aP) 41 (b:=w.heap.size) D);go_enter func13,ntmps13;go_wp2_with (first
  | (refine wpList_load_mid D 41 _ D w.heap.size 0 D (υ aD aP) _ d.out.c underlying41 D cn ?_)
  | (refine zeN D 41 D _ (zqk _) ?_)
  | (go_at_call 12;refine(rv aD aP aP _ (wF _) (wF _)).mono ?_;rintro e w4 ⟨rfl,a⟩))
 go_ret;exact⟨D,bw (stA (aR w) _) a⟩
def pW(d:Nat)(M X:Mach)(v:π)(l:List Inp)(n r:Int)(ln:List Lin)(sm:List UInt8)(ws:List Wt):Prop :=
 ∀(S1:Sl) (W:u),cf W S1 M->AF W->bP W.heap.size W v l->Δ ω d #[ac (υ M S1).toArray,v,J Q n] W λe w' =>
  ∃(SX:Sl) (a1 a2 a3:Option Addr) (a b c c1 c2 c3:Nat),e=μ (Ψ #[ac (υ X SX).toArray,ac #[κ a1 a c1,κ a2 b c2,κ a3 c c3],J Q r])/\cf w' SX X/\ShAt w' (κ a1 a c1) (κ a2 b c2) (κ a3 c c3) ln sm ws/\Below W.heap.size W w'
def pI(d:Nat)(M:Mach)(v:π)(l:List Inp)(n:Int):Prop :=
 ∀(S1:Sl) (W:u),cf W S1 M->AF W->bP W.heap.size W v l->Δ ω d #[ac (υ M S1).toArray,v,J Q n] W λe w' =>
  ∃(X:Mach) (SX:Sl) (ln:List Lin) (sm:List UInt8) (ws:List Wt) (a1 a2 a3:Option Addr) (a b c c1 c2 c3:Nat),e=μ (Ψ #[ac (υ X SX).toArray,ac #[κ a1 a c1,κ a2 b c2,κ a3 c c3],J Q 0])/\cf w' SX X/\ShAt w' (κ a1 a c1) (κ a2 b c2) (κ a3 c c3) ln sm ws/\Below W.heap.size W w'
theorem pW.some{a:Nat}{M X:Mach}{v:π}{l:List Inp}{n:Int}{ln:List Lin}{sm:List UInt8}{ws:List Wt}(h:pW a M X v l n 0 ln sm ws):pI a M v l n:=λS1 W h1 h2 h3=>(h S1 W h1 h2 h3).mono λe w' ⟨SX,a1,a2,a3,b,c,d,c1,c2,c3,h⟩=>⟨X,SX,ln,sm,ws,a1,a2,a3,b,c,d,c1,c2,c3,h⟩
def sB(M X:Mach)(v:π)(l:List Inp)(n:Int)(ln:List Lin)(sm:List UInt8)(ws:List Wt):Prop :=
 ∀(S:Sl) (W:u),S.lens M->(∀ j,j<5->(M.byt j).length<=140737488355328)->cf W S M->Facts W->bP W.heap.size W v l->Δ ω 16 #[ac (υ M S).toArray,v,J Q n] W λe w' =>
  ∃(SX:Sl) (a1 a2 a3:Option Addr) (a b c c1 c2 c3:Nat),e=μ (Ψ #[ac (υ X SX).toArray,ac #[κ a1 a c1,κ a2 b c2,κ a3 c c3]])/\cf w' SX X/\ShAt w' (κ a1 a c1) (κ a2 b c2) (κ a3 c c3) ln sm ws/\Below W.heap.size W w'
theorem zov{M:Mach}{v:π}{l:List Inp}{n:Nat}{K:Cs}(m:K=Cs.clocks ⟨⟨M,0,[]⟩,l,[],[]⟩ n)(h:M.fit)(a:∀ x∈l,x.ok)(hc:chkIn l M.clock=0)(o:n<=20000/\M.clock+n<=200000)(c:M.b.f<=19900):sB M K.s.M v l n K.ln K.sm K.s.l:=λS w _ p q i d=>by
 have g:l.length<=40:=(wE hc).1;refine(Rk.run M S v n w q p i (zou i) d h a g hc (by omega) (λj r=>xV h c o r)).mono ?_;rw[<- m];rintro e w' ⟨F,N,vl,vs,vw,rfl,h1,h2,h3,h4,k,E,t⟩;obtain⟨a1,y,c1,e1⟩:=ol h3;obtain⟨a2,z,c2,e2⟩:=ol h4;obtain⟨a3,B,c3,e3⟩:=ol k;subst e1 e2 e3;exact⟨F.S,a1,a2,a3,y,z,B,c1,c2,c3,D,h1,⟨vU h3,zda h4,vU k⟩,t⟩
theorem zuR(M:Mach)(S:Sl)(v:π)(l:List Inp)(n:Int)(w:u)(hF:AF w)(P:Facts w)(hs:cf w S M)(hl:∀ j,j<5->(M.byt j).length<=140737488355328)(p:M.ok)(R:bP w.heap.size w v l)(hn:-9223372036854775808<=n/\n<=9223372036854775807)(hr:bS M l n≠0):Δ ω 3 #[ac (υ M S).toArray,v,J Q n] w λe w'=>e=μ (ν Γ)/\Below w.heap.size w w':=by
 have hnz:((bS M l n) != 0)=Γ:=by simpa using hr
 have a:∀(S1:Sl) (W:u),cf W S1 M->AF W->bP W.heap.size W v l->Δ ω 9 #[ac (υ M S1).toArray,v,J Q n] W λe w'=>e=μ (Ψ #[ac (υ aD aP).toArray,ac #[κ G 0 0,κ G 0 0,κ G 0 0],J Q (bS M l n)])/\Below W.heap.size W w':=λS1 W h1 h2 h3=>zfd M S1 v l n W h1 (λj hj=>by have:=hl j hj;omega) p h3 hn hr
 have N:Below w.heap.size w (w.alloc (χ (υ M S).toArray 41)):=stA (aR w) _;have HB:=hid (Bx.new w (υ M S) 41 (b:=w.heap.size) D);have HQ:=hid N;have HS:=hid (hs.kept N);have HIN:=hid (R.kept N);have HAF:=hid (hF.kept N);have HFA:=hid (P.kept N);have HLN:=hid hs.lens;have HL:=hid hl;have HOK:=hid p;have HN:=hid hn;clear N hF P hs hl p R hn;have f:=(λ(W:u) (h:bP W.heap.size W v l)=>Lk.badRun M S v l n W HLN.out HOK.out h HN.out)
 generalize bS M l n=r at hnz a f;have HRUN:=hid a;have HBR:=hid f;clear hr a f;go_enter func3,ntmps3;go_wp2_with (first
  | (go_at_call 14;refine(Lk.sameShown (κ G 0 0) (κ G 0 0) (κ G 0 0) (κ G 0 0) (κ G 0 0) (κ G 0 0) [] [] [] _ g.out.sh (sH _) (by simp) (by simp)).mono ?_;rintro e w10 ⟨rfl,T⟩;have HL10:=hid (bw HP9.out.low T))
  | (go_at_call 13;refine(yw _).mono ?_;have hy8:=q;rintro e w9 ⟨rfl,t⟩;have HP9:=hid (HP8.out.kept t);have g:=hid (q.out.kept t);have g0:=g.out.r.s.at 0 _ D;have g1:=g.out.r.s.at 1 _ D;have g2:=g.out.r.s.at 2 _ D;have gz:=g.out.r.s.z;clear t hy8)
  | (refine Bu.loadG D 41 _ D w2.heap.size 0 D (υ aD aP) _ q.out.r.x.c underlying41 D cn ?_)
  | (go_at_call 12;refine(rv M S1 S _ i.out.so i.out.sm).mono ?_;rintro e w8 ⟨rfl,y⟩;have HP8:=hid (i.out.kept y);have q:=hid (HR7.out.kept y);clear y)
  | (refine Bu.loadG D 41 _ D w1.heap.size 0 D (υ M S1) _ i.out.bo.c underlying41 D cn ?_)
  | (refine Bu.loadG D 41 _ D w.heap.size 0 D (υ M S) _ i.out.bm.c underlying41 D cn ?_)
  | (go_at_call 11;refine(zb8 _ U.out.af).mono ?_;rintro e w7 ⟨rfl,B⟩;have i:=hid (U.out.kept B);have HR7:=hid (HR6.out.kept B);clear B)
  | (go_at_call 12;refine(rv M S1 S _ k.out.so k.out.sm).mono ?_;rintro e w6 ⟨rfl,E⟩;have U:=hid (k.out.kept E);have HR6:=hid (HR5.out.kept E);clear E)
  | (refine Bu.loadG D 41 _ D w1.heap.size 0 D (υ M S1) _ k.out.bo.c underlying41 D cn ?_)
  | (refine Bu.loadG D 41 _ D w.heap.size 0 D (υ M S) _ k.out.bm.c underlying41 D cn ?_)
  | (go_at_call 11;refine(zb8 _ V.out.af).mono ?_;rintro e w5 ⟨rfl,F⟩;have k:=hid (V.out.kept F);have HR5:=hid (HR4.out.kept F);clear F)
  | (go_at_call 10;refine(HBR.out _ H.out.inp').mono ?_;rintro e w4 ⟨rfl,I⟩;have V:=hid (H.out.kept I);have HR4:=hid (HR3.out.kept I);clear I)
  | (refine wpList_load_mid D 41 _ D w.heap.size 0 D (υ M S) _ H.out.bm.c underlying41 D cn ?_)
  | (refine wpList_store_mid D 47 _ _ D (w2.heap.size+1) 0 #[κ G 0 0,κ G 0 0,κ G 0 0] D D (X.out.s.there 0 3 (by simp)) kX (lH _ _ _ _ _ _ _ _ _) ?_
     refine Pl.cutL (R3 w2 aD aP [κ G 0 0,κ G 0 0,κ G 0 0]) X.out.put ?_;intro Y3 m;have H:=hid (HP2.out.kept m.old);have HR3:=hid (⟨m,HSX.out.kept m.old,HSH.out.kept m.old⟩:LawR w2 aD aP (κ G 0 0) (κ G 0 0) (κ G 0 0) [] [] [] Y3);clear m)
  | (refine wpList_store_mid D 41 _ _ D w2.heap.size 0 (υ aD aP).toArray D D (R3.th1 w2) cn (iq _ _ HIS2.out) ?_
     refine Pl.cutL (R3 w2 aD aP nil3) (R3.mk1 w2 aD aP) ?_;intro Y2 Z;have X:=hid Z;clear Z)
  | (go_at_call 9;refine(HRUN.out _ _ o.out.so o.out.af o.out.inp').mono ?_;rintro e w2 ⟨rfl,hb2⟩;have L:=wF w2;have hsh:=sH w2;have HP2:=hid (o.out.kept hb2);have HIS2:=hid (kC L);have HSX:=hid L;have HSH:=hid hsh;clear hb2 L hsh)
  | (refine wpList_load_mid D 41 _ D w1.heap.size 0 D (υ M S1) _ o.out.bo.c underlying41 D cn ?_)
  | (refine wpList_store_mid D 41 _ _ D w1.heap.size 0 (υ M S1).toArray D D ((Bx.new w1 (υ aD aP) 41 (b:=w1.heap.size) D).there 0 75 (by rw[dG];omega)) cn (iq _ _ HIS1.out) ?_
     refine Pl.cutL (LawB w w1.heap.size M S S1 v l) (LawB.mk1 HL1.out HB1.out HS1.out HO.out HIN1.out HAF1.out HFA1.out) ?_;intro Y1 hY1;have o:=hid hY1;clear hY1)
  | (go_at_call 8;refine(wB M S _ HS.out HL.out).mono ?_;rintro e w1 ⟨S1,rfl,hO,d⟩;have HO:=hid hO.slAt;have HIS1:=hid (kC hO.slAt);have HL1:=hid (bw HQ.out d);have HB1:=hid (HB.out.kept d);have HS1:=hid (HS.out.kept d);have HIN1:=hid (HIN.out.kept (d.mono HQ.out.size));have HAF1:=hid (HAF.out.kept d);have HFA1:=hid (HFA.out.kept d);clear hO d)
  | (refine wpList_load_mid D 41 _ D w.heap.size 0 D (υ M S) _ HB.out.c underlying41 D cn ?_))
 go_ret;exact⟨D,HL10.out⟩
theorem zuS(M:Mach)(S:Sl)(v:π)(l:List Inp)(n:Int)(w:u)(hF:AF w)(y:Facts w)(U:cf w S M)(hl:∀ j,j<5->(M.byt j).length<=140737488355328)(z:M.ok)(B:bP w.heap.size w v l)(hn:-9223372036854775808<=n/\n<=9223372036854775807)(hr:bS M l n=0)(E:19000<M.b.f)(m:pI 9 M v l n):Δ ω 3 #[ac (υ M S).toArray,v,J Q n] w λe w'=>e=μ (ν Γ)/\Below w.heap.size w w':=by
 have hd:decide (19000<M.b.f)=Γ:=aO E;have HR:=hid hr;have HRUN:=hid m;have x:Below w.heap.size w (w.alloc (χ (υ M S).toArray 41)):=stA (aR w) _;have HB:=hid (Bx.new w (υ M S) 41 (b:=w.heap.size) D);have HQ:=hid x;have HS:=hid (U.kept x);have V:=hid (B.kept x);have Z:=hid (hF.kept x);have HFA:=hid (y.kept x);have HLN:=hid U.lens;have HL:=hid hl;have HOK:=hid z;have HN:=hid hn;clear x hF y U hl z B hn;have d:=(λ(W:u) (h:bP W.heap.size W v l)=>Lk.badRun M S v l n W HLN.out HOK.out h HN.out)
 rw[HR.out] at d;have HBR:=hid d;clear hr m E d;go_enter func3,ntmps3;go_wp2_with (first
  | (go_at_call 15;refine(xx M S _ _).mono ?_;rw[hd];rintro e w7 ⟨rfl,F⟩;have HL7:=hid (bw H.out.low F);clear F)
  | (refine wpList_load_mid D 41 _ D w.heap.size 0 D (υ M S) _ H.out.bm.c underlying41 D cn ?_)
  | (go_at_call 12;refine(rv M S1 S _ g.out.so g.out.sm).mono ?_;rintro e w6 ⟨rfl,o⟩;have H:=hid (g.out.kept o);have HR6:=hid (HR5.out.kept o);clear o)
  | (refine Bu.loadG D 41 _ D w1.heap.size 0 D (υ M S1) _ g.out.bo.c underlying41 D cn ?_)
  | (refine Bu.loadG D 41 _ D w.heap.size 0 D (υ M S) _ g.out.bm.c underlying41 D cn ?_)
  | (go_at_call 11;refine(zb8 _ I.out.af).mono ?_;rintro e w5 ⟨rfl,p⟩;have g:=hid (I.out.kept p);have HR5:=hid (HR4.out.kept p);clear p)
  | (go_at_call 10;refine(HBR.out _ q.out.inp').mono ?_;rintro e w4 ⟨rfl,r⟩;have I:=hid (q.out.kept r);have HR4:=hid (HR3.out.kept r);clear r)
  | (refine wpList_load_mid D 41 _ D w.heap.size 0 D (υ M S) _ q.out.bm.c underlying41 D cn ?_)
  | (refine wpList_store_mid D 47 _ _ D (w2.heap.size+1) 0 #[κ a1 n1 c1,κ a2 n2 c2,κ a3 n3 c3] D D (L.out.s.there 0 3 (by simp)) kX (lH _ _ _ _ _ _ _ _ _) ?_
     refine Pl.cutL (R3 w2 X SX [κ a1 n1 c1,κ a2 n2 c2,κ a3 n3 c3]) L.out.put ?_;intro Y3 i;have q:=hid (HP2.out.kept i.old);have HR3:=hid (⟨i,HSX.out.kept i.old,HSH.out.kept i.old⟩:LawR w2 X SX (κ a1 n1 c1) (κ a2 n2 c2) (κ a3 n3 c3) ln sm ws Y3);clear i)
  | (refine wpList_store_mid D 41 _ _ D w2.heap.size 0 (υ X SX).toArray D D (R3.th1 w2) cn (iq _ _ HIS2.out) ?_
     refine Pl.cutL (R3 w2 X SX nil3) (R3.mk1 w2 X SX) ?_;intro Y2 N;have L:=hid N;clear N)
  | (go_at_call 9;refine(HRUN.out _ _ k.out.so k.out.af k.out.inp').mono ?_;rintro e w2 ⟨X,SX,ln,sm,ws,a1,a2,a3,n1,n2,n3,c1,c2,c3,rfl,t,P,R⟩;have HP2:=hid (k.out.kept R);have HIS2:=hid (kC t);have HSX:=hid t;have HSH:=hid P;clear R t P)
  | (refine wpList_load_mid D 41 _ D w1.heap.size 0 D (υ M S1) _ k.out.bo.c underlying41 D cn ?_)
  | (refine wpList_store_mid D 41 _ _ D w1.heap.size 0 (υ M S1).toArray D D ((Bx.new w1 (υ aD aP) 41 (b:=w1.heap.size) D).there 0 75 (by rw[dG];omega)) cn (iq _ _ HIS1.out) ?_
     refine Pl.cutL (LawB w w1.heap.size M S S1 v l) (LawB.mk1 HL1.out HB1.out HS1.out HO.out HIN1.out HAF1.out HFA1.out) ?_;intro Y1 T;have k:=hid T;clear T)
  | (go_at_call 8;refine(wB M S _ HS.out HL.out).mono ?_;rintro e w1 ⟨S1,rfl,hO,a⟩;have HO:=hid hO.slAt;have HIS1:=hid (kC hO.slAt);have HL1:=hid (bw HQ.out a);have HB1:=hid (HB.out.kept a);have HS1:=hid (HS.out.kept a);have HIN1:=hid (V.out.kept (a.mono HQ.out.size));have HAF1:=hid (Z.out.kept a);have HFA1:=hid (HFA.out.kept a);clear hO a)
  | (refine wpList_load_mid D 41 _ D w.heap.size 0 D (υ M S) _ HB.out.c underlying41 D cn ?_))
 go_ret;exact⟨D,HL7.out⟩
theorem zuT(M:Mach)(S:Sl)(v:π)(l:List Inp)(n:Int)(w:u)(hF:AF w)(hFa:Facts w)(hs:cf w S M)(hl:∀ j,j<5->(M.byt j).length<=140737488355328)(hok:M.ok)(hin:bP w.heap.size w v l)(hn:-9223372036854775808<=n/\n<=9223372036854775807)(hr:bS M l n=0)(h19:¬ 19000<M.b.f)(X:Mach)(ln:List Lin)(sm:List UInt8)(ws:List Wt)(hkl:ln.length<=1000000/\ws.length<=1000000)(y:pW 9 M X v l n 0 ln sm ws)(B:sB M X v l n ln sm ws):Δ ω 3 #[ac (υ M S).toArray,v,J Q n] w λe w'=>e=μ (ν Γ)/\Below w.heap.size w w':=by
 have hd:decide (19000<M.b.f)=ξ:=aG h19;have HR:=hid hr;have HRUN:=hid y;have HKL:=hid hkl;have HREF:=hid (λ(W:u)=>B S W (hs.lens) hl);have Z:Below w.heap.size w (w.alloc (χ (υ M S).toArray 41)):=stA (aR w) _;have HB:=hid (Bx.new w (υ M S) 41 (b:=w.heap.size) D);have HQ:=hid Z;have HS:=hid (hs.kept Z);have HIN:=hid (hin.kept Z);have HAF:=hid (hF.kept Z);have HFA:=hid (hFa.kept Z);have HLN:=hid hs.lens;have HL:=hid hl;have HOK:=hid hok;have HN:=hid hn;clear Z hF hFa hs hl hok hin hn;have k:=(λ(W:u) (h:bP W.heap.size W v l)=>Lk.badRun M S v l n W HLN.out HOK.out h HN.out)
 rw[HR.out] at k;have HBR:=hid k;clear hr y h19 k hkl B;go_enter func3,ntmps3;go_wp2_with (first
  | (go_at_call 14;refine(Lk.sameShown (κ a1 n1 c1) (κ a2 n2 c2) (κ a3 n3 c3) (κ b1 m1 d1) (κ b2 m2 d2) (κ b3 m3 d3) ln sm ws _ HR10.out.sh HT10.out.sh HKL.out.1 HKL.out.2).mono ?_;rintro e w11 ⟨rfl,hb11⟩;have HL11:=hid (bw HP10.out.low hb11))
  | (go_at_call 12;refine(rv X SX a _ H.out.sx I.out.sx).mono ?_;rintro e w10 ⟨rfl,g⟩;have HP10:=hid (HP9.out.kept g);have HR10:=hid (H.out.kept g);have HT10:=hid (I.out.kept g);have g0:=HR10.out.r.s.at 0 _ D;have g1:=HR10.out.r.s.at 1 _ D;have g2:=HR10.out.r.s.at 2 _ D;have gz:=HR10.out.r.s.z;have s0:=HT10.out.r.s.at 0 _ D;have s1:=HT10.out.r.s.at 1 _ D;have s2:=HT10.out.r.s.at 2 _ D;have sz:=HT10.out.r.s.z;clear g)
  | (refine Bu.loadG D 41 _ D w2.heap.size 0 D (υ X SX) _ H.out.r.x.c underlying41 D cn ?_)
  | (refine Bu.loadG D 41 _ D E.heap.size 0 D (υ X a) _ I.out.r.x.c underlying41 D cn ?_)
  | (refine wpList_store_mid D 47 _ _ D (E.heap.size+1) 0 #[κ b1 m1 d1,κ b2 m2 d2,κ b3 m3 d3] D D (HY8.out.s.there 0 3 (by simp)) kX (lH _ _ _ _ _ _ _ _ _) ?_
     refine Pl.cutL (R3 E X a [κ b1 m1 d1,κ b2 m2 d2,κ b3 m3 d3]) HY8.out.put ?_;intro Y9 i;have HP9:=hid (HP8.out.kept i.old);have H:=hid (HR8.out.kept i.old);have I:=hid (⟨i,HSX8.out.kept i.old,HSH8.out.kept i.old⟩:LawR E X a (κ b1 m1 d1) (κ b2 m2 d2) (κ b3 m3 d3) ln sm ws Y9);clear i)
  | (refine wpList_store_mid D 41 _ _ D E.heap.size 0 (υ X a).toArray D D (R3.th1 E) cn (iq _ _ HIS8.out) ?_
     refine Pl.cutL (R3 E X a nil3) (R3.mk1 E X a) ?_;intro Y8 hY8;have HY8:=hid hY8;clear hY8)
  | (go_at_call 16;refine(HREF.out _ m.out.sm m.out.fa m.out.inp').mono ?_;rintro e E ⟨a,b1,b2,b3,m1,m2,m3,d1,d2,d3,rfl,o,F,L⟩;have HP8:=hid (m.out.kept L);have HR8:=hid (HR7.out.kept L);clear L;have HIS8:=hid (kC o);have HSX8:=hid o;have HSH8:=hid F;clear o F)
  | (refine wpList_load_mid D 41 _ D w.heap.size 0 D (υ M S) _ m.out.bm.c underlying41 D cn ?_)
  | (go_at_call 15;refine(xx M S _ _).mono ?_;rw[hd];rintro e w7 ⟨rfl,N⟩;have m:=hid (HP6.out.kept N);have HR7:=hid (HR6.out.kept N);clear N)
  | (refine wpList_load_mid D 41 _ D w.heap.size 0 D (υ M S) _ HP6.out.bm.c underlying41 D cn ?_)
  | (go_at_call 12;refine(rv M S1 S _ p.out.so p.out.sm).mono ?_;rintro e w6 ⟨rfl,P⟩;have HP6:=hid (p.out.kept P);have HR6:=hid (HR5.out.kept P);clear P)
  | (refine Bu.loadG D 41 _ D w1.heap.size 0 D (υ M S1) _ p.out.bo.c underlying41 D cn ?_)
  | (refine Bu.loadG D 41 _ D w.heap.size 0 D (υ M S) _ p.out.bm.c underlying41 D cn ?_)
  | (go_at_call 11;refine(zb8 _ HP4.out.af).mono ?_;rintro e w5 ⟨rfl,R⟩;have p:=hid (HP4.out.kept R);have HR5:=hid (HR4.out.kept R);clear R)
  | (go_at_call 10;refine(HBR.out _ T.out.inp').mono ?_;rintro e w4 ⟨rfl,U⟩;have HP4:=hid (T.out.kept U);have HR4:=hid (HR3.out.kept U);clear U)
  | (refine wpList_load_mid D 41 _ D w.heap.size 0 D (υ M S) _ T.out.bm.c underlying41 D cn ?_)
  | (refine wpList_store_mid D 47 _ _ D (w2.heap.size+1) 0 #[κ a1 n1 c1,κ a2 n2 c2,κ a3 n3 c3] D D (HY2.out.s.there 0 3 (by simp)) kX (lH _ _ _ _ _ _ _ _ _) ?_
     refine Pl.cutL (R3 w2 X SX [κ a1 n1 c1,κ a2 n2 c2,κ a3 n3 c3]) HY2.out.put ?_;intro Y3 q;have T:=hid (HP2.out.kept q.old);have HR3:=hid (⟨q,HSX.out.kept q.old,HSH.out.kept q.old⟩:LawR w2 X SX (κ a1 n1 c1) (κ a2 n2 c2) (κ a3 n3 c3) ln sm ws Y3);clear q)
  | (refine wpList_store_mid D 41 _ _ D w2.heap.size 0 (υ X SX).toArray D D (R3.th1 w2) cn (iq _ _ HIS2.out) ?_
     refine Pl.cutL (R3 w2 X SX nil3) (R3.mk1 w2 X SX) ?_;intro Y2 hY2;have HY2:=hid hY2;clear hY2)
  | (go_at_call 9;refine(HRUN.out _ _ t.out.so t.out.af t.out.inp').mono ?_;rintro e w2 ⟨SX,a1,a2,a3,n1,n2,n3,c1,c2,c3,rfl,V,hsh,hb2⟩;have HP2:=hid (t.out.kept hb2);have HIS2:=hid (kC V);have HSX:=hid V;have HSH:=hid hsh;clear hb2 V hsh)
  | (refine wpList_load_mid D 41 _ D w1.heap.size 0 D (υ M S1) _ t.out.bo.c underlying41 D cn ?_)
  | (refine wpList_store_mid D 41 _ _ D w1.heap.size 0 (υ M S1).toArray D D ((Bx.new w1 (υ aD aP) 41 (b:=w1.heap.size) D).there 0 75 (by rw[dG];omega)) cn (iq _ _ HIS1.out) ?_
     refine Pl.cutL (LawB w w1.heap.size M S S1 v l) (LawB.mk1 HL1.out HB1.out HS1.out HO.out HIN1.out HAF1.out HFA1.out) ?_;intro Y1 hY1;have t:=hid hY1;clear hY1)
  | (go_at_call 8;refine(wB M S _ HS.out HL.out).mono ?_;rintro e w1 ⟨S1,rfl,hO,d⟩;have HO:=hid hO.slAt;have HIS1:=hid (kC hO.slAt);have HL1:=hid (bw HQ.out d);have HB1:=hid (HB.out.kept d);have HS1:=hid (HS.out.kept d);have HIN1:=hid (HIN.out.kept (d.mono HQ.out.size));have HAF1:=hid (HAF.out.kept d);have HFA1:=hid (HFA.out.kept d);clear hO d)
  | (refine wpList_load_mid D 41 _ D w.heap.size 0 D (υ M S) _ HB.out.c underlying41 D cn ?_))
 go_ret;exact⟨D,HL11.out⟩
end Go.Proofs.YthghjlinhokimaaGreatDoor
