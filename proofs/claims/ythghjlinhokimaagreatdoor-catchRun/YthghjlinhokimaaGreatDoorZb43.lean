/-
  Parts of a proof, joined.
-/
import Derived.Test.YthghjlinhokimaaGreatDoorZbA
import Derived.Test.YthghjlinhokimaaGreatDoorZb40
import Derived.Test.YthghjlinhokimaaGreatDoorZb41
import Derived.Test.YthghjlinhokimaaGreatDoorZb42
set_option linter.all false
set_option maxRecDepth 100000
set_option maxHeartbeats 6400000
open Option renaming none->G,some->A,getD->gV
open Go renaming World->u,Value->π
open Go.Act renaming put->ag
open Or renaming inl->aj
open Go.Code renaming wp->eT
open Go.Value renaming int->J,slice->κ
open Go.IntKind renaming i64->Q,u8->au
namespace Go.Proofs.YthghjlinhokimaaGreatDoor
open Go.ChangeShapes Go.WideShapes Go.ChangeAt Go.RowKit Go.Proofs.Tryz
def Mach.pall(M:Mach):List Inp->Mach
 | []=>M
 | x::l=>(if x.c=M.clock then M.press x else M).pall l
def Bst.rclk(s:Bst)(l:List Inp):Bst :=
 let y:=(Bst.stepMain ⟨s.M.pall l,s.n,s.l⟩).stepAux
 ⟨y.M.goOn,y.n,y.l⟩
section
variable {F : Gx} {N ob : Nat} {vl vs v : π} {w W W1 W3 : u} {s : Bst} {ln : List Lin} {sm : List UInt8} {M : Mach} {n : Int} {l : List Wt} {inp : List Inp}
theorem zqo(k:Nat)(z:Code)(h:mn k iE=.seq (gK 0 (mn k iE)) z){η:Exit->Act->u->Prop}{a:Act}(b:eT prog (.seq (gK 0 (mn k iE)) z) η a W):eT prog (mn k iE) η a W:=by
 rw[h];exact b
def sG(p:Pd):List π:=[J au p.d,.bool p.l,J au p.s]
structure GB (F : Gx) (N ob : Nat) (vl vs : π) (w : u) (s : Bst) (ln : List Lin) (sm : List UInt8) (b : Nat) (x : Inp) (W : u) : Prop where
 c:GV F N ob vl vs w s ln sm W
 bx:Bx W b [J Q x.c,J Q x.p,J au x.d]
theorem GB.kept{b:Nat}{x:Inp}(h:GB F N ob vl vs w s ln sm b x W)(hb:Below W.heap.size W W1):GB F N ob vl vs w s ln sm b x W1:=⟨h.c.kept hb,h.bx.kept hb⟩
theorem GB.sp0{b:Nat}{x:Inp}(h:GB F N ob vl vs w s ln sm b x W)(hp:x.p=0):W.cell? ⟨b,1,G⟩=A (J Q 0)/\W.cell? ⟨b,2,G⟩=A (J au x.d)/\W.rangeAt F.g 35 (sG s.M.p0):=by
 obtain⟨v,a⟩:=h.c.c.gd;exact⟨by rw[<- hp];exact h.bx.at 1 _ D,h.bx.at 2 _ D,a.bx.mid 35 3⟩
theorem GB.sp1{b:Nat}{x:Inp}(h:GB F N ob vl vs w s ln sm b x W)(hp:x.p=1):W.cell? ⟨b,1,G⟩=A (J Q 1)/\W.cell? ⟨b,2,G⟩=A (J au x.d)/\W.rangeAt F.g 38 (sG s.M.p1):=by
 obtain⟨v,a⟩:=h.c.c.gd;exact⟨by rw[<- hp];exact h.bx.at 1 _ D,h.bx.at 2 _ D,a.bx.mid 38 3⟩
theorem zBu(c:GK F N ob)(a:Act)(i:Ck a F.g v ob)(h:GV F N ob vl vs w s ln sm W)(d:ln.length<=100000)(e:sm.length<=100000)(j:s.stepMain.l.length<=1000000)(hb:pL s.stepMain.stepAux.M.b.l s.stepMain.stepAux.M.b.a s.stepMain.stepAux.M.b.f=true)(hc:s.stepMain.stepAux.M.clock<200000):eT prog (mn 2 iE) (bodyPost prog Tryz.f41 (KP F N ob w ⟨s.stepMain.stepAux.M.goOn,s.stepMain.stepAux.n,s.stepMain.stepAux.l⟩ (ln++s.M.line) (sm++s.M.sample))) a W:=by
 refine zqo 2 (mn 3 iE) D (zBt c _ _ a i h d (λa1 W1 k c1 g1=>?_));refine zqo 3 (mn 4 iE) D (zxg c _ _ a1 c1 g1 e (λa2 p m c2 o=>?_));refine zqo 4 (mn 5 iE) D (zBr c _ _ a2 c2 o (λa3 W3 c3 g3=>?_));refine zqo 5 (mn 6 iE) D (CK c _ _ a3 c3 g3 j (λa4 q c4 g4=>?_));exact CJ c a4 c4 g4 hb hc
theorem zzL(E:GK F N ob)(h:GC F N ob vl vs w s ln sm)(hin:bP F.B w v inp)(hok:∀ x∈inp,x.ok)(hli:inp.length<=40)(hln:ln.length<=100000)(hsm:sm.length<=100000)(hl:(Bst.stepMain ⟨s.M.pall inp,s.n,s.l⟩).l.length<=1000000)
 (hb:pL (Bst.stepMain ⟨s.M.pall inp,s.n,s.l⟩).stepAux.M.b.l (Bst.stepMain ⟨s.M.pall inp,s.n,s.l⟩).stepAux.M.b.a (Bst.stepMain ⟨s.M.pall inp,s.n,s.l⟩).stepAux.M.b.f=true) (hc:(Bst.stepMain ⟨s.M.pall inp,s.n,s.l⟩).stepAux.M.clock<200000) :
 Calls prog 41 #[pt F.g 0,v,pt ob 0] w (KP F N ob w (s.rclk inp) (ln++(s.M.pall inp).line) (sm++(s.M.pall inp).sample)):=by
 obtain⟨a1,k1,e1⟩:=hin.len;subst e1;obtain⟨M,n,l⟩:=s;have HZ:=hid (λ(a:Act) (W:u) (hC:Ck a F.g (κ a1 inp.length k1) ob) (h:GV F N ob vl vs w ⟨M.pall inp,n,l⟩ ln sm W)=>zBu E a hC h hln hsm hl hb hc);have HP0:Hid (KP F N ob w (Bst.rclk ⟨M,n,l⟩ inp) (ln++(M.pall inp).line) (sm++(M.pall inp).sample)=KP F N ob w (Bst.rclk ⟨M,n,l⟩ inp) (ln++(M.pall inp).line) (sm++(M.pall inp).sample)):=hid D;have HIN:=hid hin;have HK:=hid E;have HOK:=hid hok;have HH0:Hid (GV F N ob vl vs w ⟨M,n,l⟩ ln sm w):=hid (GV.start h);obtain⟨mz,mf⟩:=h.gz;clear E hok hln hsm hl hb hc h hin;go_enter func41,ntmps41;show eT _ (.seq (gK 0 iE) (.seq (gK 0 (mn 1 iE)) (mn 2 iE))) _ _ _;generalize (mn 2 iE)=z at *;conv=>arg 2;arg 1;dsimp only[mn,gK,iE,Tryz.f41,gV]
 conv=>arg 2;arg 2;arg 1;dsimp only[mn,gK,iE,Tryz.f41,gV]
 go_wp2;go_loopw [18] (λi wr=>∃ j:Nat,j<=inp.length/\i=J Q j /\ ∃ m:Mach,GV F N ob vl vs w ⟨m,n,l⟩ ln sm wr/\m.pall (inp.drop j)=M.pall inp) (λi _=>inp.length-(intOf i).toNat)
 case atStart=>exact⟨0,bh _,D,M,HH0.out,D⟩
 case round =>
  obtain⟨j,hj,rfl,m,hG,hP⟩:=hrel;have HG:=hid hG;have HP:=hid hP;by_cases H:j<inp.length
  ·have I:=hid H
   obtain⟨x,hx⟩:∃ x,inp[j]?=A x:=⟨_,aq H⟩
   have hd:inp.drop j=x::inp.drop (j+1):=by
    rw[dx H];congr 1;rw[aq H] at hx;exact aL hx
   have hxo:x.ok:=HOK.out x (bu hx);have HXO:=hid hxo;have HH:=HIN.out.kept hG.b;obtain⟨g,o,k,ev,gz,x0,x1,x2⟩:=HH.at' hx;cases ev;have hjl:(j:Int)<inp.length:=by omega
   have hj0:(0:Int)<=j:=by omega
   have hj40:(j:Int)<40:=by omega
   have HD:=hid hd;have m72:=hG.c.at 72 (J Q m.clock) (by decide) D;obtain⟨gz1,gf1⟩:=hG.c.gz;clear hP hd hx HH hxo hG mz mf;by_cases q:x.c=m.clock
   ·have hq:(x.c == m.clock)=true:=by simpa using q
    have HQ:=hid q;clear q;rcases HXO.out.p with hp|hp
    ·rw[hp] at x1
     have P:m.press x={ m with p0:=m.p0.press x.d }:=by unfold Mach.press;simp[hp]
     go_wp2;go_region_held3 (λw'=>w'.cell? ⟨wr.heap.size,0,G⟩=A (J Q x.c)/\w'.cell? ⟨F.g,72,G⟩=A (J Q m.clock))
      ((go_keep;done))
      (fail)
     go_upto_region 5 with fail
     refine Pl.cutW (GB F N ob vl vs w ⟨m,n,l⟩ ln sm wr.heap.size x) ⟨HG.out.kept (stA (aR wr) _).drew,by rw[hp];exact(Bx.new wr [J Q x.c,J Q 0,J au x.d] _ D).kept (aR _).drew⟩ ?_;intro V hV;have HV:=hid (hV.kept (aR V).drew);have r:=HV.out.sp0 hp;have R:=hid P;clear hV P x0 x1 x2 m72;refine qp (S:=λw'=>w'.cell? ⟨wr.heap.size,1,G⟩=A (J Q 0)/\w'.cell? ⟨wr.heap.size,2,G⟩=A (J au x.d)/\w'.rangeAt F.g 35 (sG m.p0)) (st:=15) (by kernel_rfl) ?_;refine b8 0 (λ_=>r) ?_;refine b8 1 (λ_=>r) ?_;refine b8 3 (λ_=>r) ?_;refine b8 4 (λ_=>r) ?_;refine b8 6 (λ_=>r) ?_;refine b8 7 (λ_=>r) ?_;refine b8 10 (λ_=>r) ?_;refine b8 13 (λ_=>r) ?_;refine b8 14 (λ_=>r) ?_;refine rA [15] (i:=2) (oi:=⟨A 31,_,_,_,_,G⟩) (v:=J Q 0) D (aj ⟨by rfl,?_⟩) r ?_
     ·intro w' t
      have y:=t.1;have T:=aC w' _ y;go_simp;try (with_reducible rfl)
     simp only[ag,xA,xB,xC];refine rA [15] (i:=5) (oi:=⟨A 34,_,_,_,_,G⟩) (v:=J Q 0) D (aj ⟨by rfl,?_⟩) r ?_
     ·intro w' t
      have y:=t.1;have T:=aC w' _ y;go_simp;try (with_reducible rfl)
     simp only[ag,xA,xB,xC];refine b8 8 (λ_=>r) ?_;refine rA [15] (i:=9) (oi:=⟨A 38,_,_,_,_,G⟩) (v:=.agg (sG m.p0).toArray) D (aj ⟨by rfl,λw' t=>ml 28 _ D F.g 35 D (sG m.p0) _ t.2.2 underlying28 D wk⟩) r ?_;simp only[ag,xA,xB,xC];refine rA [15] (i:=11) (oi:=⟨A 40,_,_,_,_,G⟩) (v:=J au x.d) D (aj ⟨by rfl,?_⟩) r ?_
     ·intro w' t
      have y:=t.2.1;have T:=aC w' _ y;go_simp;try (with_reducible rfl)
     simp only[ag,xA,xB,xC];refine jy 12 (λK E=>?_);go_simp;go_at_call 70
     refine(zpR _ _ _ _ _).mono ?_;rintro e w8 ⟨rfl,U⟩;have L:=hid (HV.out.kept U);clear U;try go_wp2_with fail
     refine jV E (λ_=>L.out.sp0 hp) ?_;clear E K;clear r;have r:=L.out.sp0 hp;refine jy 15 (λK E=>?_);go_simp;refine jV E (λh=>by simp at h) ?_;clear E K;refine jy 16 (λK E=>?_);refine pH D 28 _ _ D F.g 35 (sG (m.p0.press x.d)).toArray D D (L.out.c.c.th 35 3 (by decide)) wk (zj4 (m.p0.press x.d)) ?_;refine E.out _ _ (λh=>by simp at h) ?_;clear E K;refine pq (by kernel_rfl) ?_ _;have X:=L.out.c.puts (M':={ m with p0:=m.p0.press x.d }) HK.out 35 (sG (m.p0.press x.d)) (by simp[sG]) (λ_=>D) ⟨D,D,D,D,D⟩ (by have:=zeJ L.out.c.c.fit HXO.out;rw[show (⟨m,n,l⟩:Bst).M.press x=_ from R.out] at this;exact this);refine Pl.cutE (GV F N ob vl vs w ⟨{ m with p0:=m.p0.press x.d },n,l⟩ ln sm) X ?_;intro V2 Z;have HV2:=hid Z;clear Z X r L HV;go_wp2
     go_roundw
     case rel=>exact⟨j+1,I.out,by go_num,_,HV2.out,by rw[<- HP.out,HD.out];show _=(if x.c=m.clock then m.press x else m).pall _;rw[am HQ.out,R.out]⟩
     case measure=>have H:=I.out;simp[intOf];omega
    ·rw[hp] at x1
     have P:m.press x={ m with p1:=m.p1.press x.d }:=by unfold Mach.press;simp[hp]
     go_wp2;go_region_held3 (λw'=>w'.cell? ⟨wr.heap.size,0,G⟩=A (J Q x.c)/\w'.cell? ⟨F.g,72,G⟩=A (J Q m.clock))
      ((go_keep;done))
      (fail)
     go_upto_region 5 with fail
     refine Pl.cutW (GB F N ob vl vs w ⟨m,n,l⟩ ln sm wr.heap.size x) ⟨HG.out.kept (stA (aR wr) _).drew,by rw[hp];exact(Bx.new wr [J Q x.c,J Q 1,J au x.d] _ D).kept (aR _).drew⟩ ?_;intro V hV;have HV:=hid (hV.kept (aR V).drew);have r:=HV.out.sp1 hp;have R:=hid P;clear hV P x0 x1 x2 m72;refine qp (S:=λw'=>w'.cell? ⟨wr.heap.size,1,G⟩=A (J Q 1)/\w'.cell? ⟨wr.heap.size,2,G⟩=A (J au x.d)/\w'.rangeAt F.g 38 (sG m.p1)) (st:=15) (by kernel_rfl) ?_;refine b8 0 (λ_=>r) ?_;refine b8 1 (λ_=>r) ?_;refine b8 3 (λ_=>r) ?_;refine b8 4 (λ_=>r) ?_;refine b8 6 (λ_=>r) ?_;refine b8 7 (λ_=>r) ?_;refine b8 10 (λ_=>r) ?_;refine b8 13 (λ_=>r) ?_;refine b8 14 (λ_=>r) ?_;refine rA [15] (i:=2) (oi:=⟨A 31,_,_,_,_,G⟩) (v:=J Q 1) D (aj ⟨by rfl,?_⟩) r ?_
     ·intro w' t
      have y:=t.1;have T:=aC w' _ y;go_simp;try (with_reducible rfl)
     simp only[ag,xA,xB,xC];refine rA [15] (i:=5) (oi:=⟨A 34,_,_,_,_,G⟩) (v:=J Q 1) D (aj ⟨by rfl,?_⟩) r ?_
     ·intro w' t
      have y:=t.1;have T:=aC w' _ y;go_simp;try (with_reducible rfl)
     simp only[ag,xA,xB,xC];refine b8 8 (λ_=>r) ?_;refine rA [15] (i:=9) (oi:=⟨A 38,_,_,_,_,G⟩) (v:=.agg (sG m.p1).toArray) D (aj ⟨by rfl,λw' t=>ml 28 _ D F.g 38 D (sG m.p1) _ t.2.2 underlying28 D wk⟩) r ?_;simp only[ag,xA,xB,xC];refine rA [15] (i:=11) (oi:=⟨A 40,_,_,_,_,G⟩) (v:=J au x.d) D (aj ⟨by rfl,?_⟩) r ?_
     ·intro w' t
      have y:=t.2.1;have T:=aC w' _ y;go_simp;try (with_reducible rfl)
     simp only[ag,xA,xB,xC];refine jy 12 (λK E=>?_);go_simp;go_at_call 70
     refine(zpR _ _ _ _ _).mono ?_;rintro e w8 ⟨rfl,U⟩;have L:=hid (HV.out.kept U);clear U;try go_wp2_with fail
     refine jV E (λ_=>L.out.sp1 hp) ?_;clear E K;clear r;have r:=L.out.sp1 hp;refine jy 15 (λK E=>?_);go_simp;refine jV E (λh=>by simp at h) ?_;clear E K;refine jy 16 (λK E=>?_);refine pH D 28 _ _ D F.g 38 (sG (m.p1.press x.d)).toArray D D (L.out.c.c.th 38 3 (by decide)) wk (zj4 (m.p1.press x.d)) ?_;refine E.out _ _ (λh=>by simp at h) ?_;clear E K;refine pq (by kernel_rfl) ?_ _;have X:=L.out.c.puts (M':={ m with p1:=m.p1.press x.d }) HK.out 38 (sG (m.p1.press x.d)) (by simp[sG]) (λ_=>D) ⟨D,D,D,D,D⟩ (by have:=zeJ L.out.c.c.fit HXO.out;rw[show (⟨m,n,l⟩:Bst).M.press x=_ from R.out] at this;exact this);refine Pl.cutE (GV F N ob vl vs w ⟨{ m with p1:=m.p1.press x.d },n,l⟩ ln sm) X ?_;intro V2 Z;have HV2:=hid Z;clear Z X r L HV;go_wp2
     go_roundw
     case rel=>exact⟨j+1,I.out,by go_num,_,HV2.out,by rw[<- HP.out,HD.out];show _=(if x.c=m.clock then m.press x else m).pall _;rw[am HQ.out,R.out]⟩
     case measure=>have H:=I.out;simp[intOf];omega
   ·have hq:(x.c == m.clock)=false:=by simpa using q
    have HQ:=hid q;clear q;go_wp2;go_region_held3 (λw'=>w'.cell? ⟨wr.heap.size,0,G⟩=A (J Q x.c)/\w'.cell? ⟨F.g,72,G⟩=A (J Q m.clock))
     ((go_keep;done))
     (fail)
    go_wp2
    go_roundw
    case rel=>exact⟨j+1,I.out,by go_num,m,HG.out.kept (stA (aR wr) _).drew,by rw[<- HP.out,HD.out];show _=(if x.c=m.clock then m.press x else m).pall _;rw[ae HQ.out]⟩
    case measure=>have H:=I.out;simp[intOf];omega
  ·obtain rfl:j=inp.length:=by omega
   rw[fu] at hP;have hP':m=M.pall inp:=hP;subst hP';clear hP;go_wp2;exact HZ.out _ _ ⟨D,D,D,D,D,D⟩ HG.out
end
theorem zqp:∀(a b:List Inp) (M:Mach),M.pall (a++b)=(M.pall a).pall b
 | [],b,M=>rfl
 | x::a,b,M=>zqp a b _
theorem zos:∀(l:List Inp) (M:Mach),(∀ x∈l,x.c≠M.clock)->M.pall l=M
 | [],M,_=>rfl
 | x::l,M,h=>by
  show (if x.c=M.clock then M.press x else M).pall l=M;rw[ae (h x bO)];exact zos l M (λy a=>h y (bV _ a))
theorem zuQ:∀(l:List Inp) (M:Mach),l.Pairwise (λx y=>x.c<=y.c)->(∀ x∈l,M.clock<=x.c)->M.pall l=M.pressed l
 | [],M,_,_=>rfl
 | x::l,M,b,h=>by
  obtain⟨h1,h2⟩:=fC.1 b;have d:=h x bO;show (if x.c=M.clock then M.press x else M).pall l=if x.c<=M.clock then (M.press x).pressed l else M
  by_cases e:x.c=M.clock
  ·rw[am e,am (Int.le_of_eq e)]
   exact zuQ l (M.press x) h2 (λy a=>by rw[zd5];exact h y (bV _ a))
  ·rw[ae e,ae (by omega)]
   exact zos l M (λy a=>by have:=h1 y a;omega)
theorem zfC:∀(l:List Inp) (M:Mach),l.Pairwise (λx y=>x.c<=y.c)->∃ a,l=a++M.coming l/\(∀ x∈a,x.c<=M.clock) /\ ∀ x∈M.coming l,M.clock<x.c
 | [],M,_=>⟨[],D,(λx d=>by cases d),λx d=>by cases d⟩
 | x::l,M,g=>by
  obtain⟨h1,h2⟩:=fC.1 g;by_cases e:x.c<=M.clock
  ·obtain⟨a,e1,e2,e3⟩:=zfC l M h2
   have f:M.coming (x::l)=M.coming l:=am e;rw[f];refine⟨x::a,by rw[cV,<- e1],λy b=>?_,e3⟩;rcases bp.1 b with rfl|b
   ·exact e
   ·exact e2 y b
  ·have f:M.coming (x::l)=x::l:=ae e
   rw[f];refine⟨[],D,(λy b=>by cases b),λy b=>?_⟩;rcases bp.1 b with rfl|b
   ·omega
   ·have:=h1 y b;omega
def vV(inp:List Inp)(k:Cs):Prop:=inp.Pairwise (λx y=>x.c<=y.c) /\ ∃ a,inp=a++k.co/\(∀ x∈a,x.c<k.s.M.clock) /\ ∀ x∈k.co,k.s.M.clock<=x.c
theorem vV.pall{inp:List Inp}{k:Cs}(h:vV inp k):k.s.M.pall inp=k.s.M.pressed k.co:=by
 obtain⟨b,a,e,h1,h2⟩:=h;rw[e,zqp,zos a k.s.M (λx c=>by have:=h1 x c;omega)];rw[e] at b;exact zuQ _ _ (nH.1 b).2.1 h2
theorem zqq(k:Cs):k.clock.s.M.clock=k.s.M.clock+1:=by
 show k.now.s.M.clock+1=_;rw[sZ]
theorem vV.clock{inp:List Inp}{k:Cs}(h:vV inp k):vV inp k.clock:=by
 obtain⟨f,b,e,h1,h2⟩:=h;have d:=f;rw[e] at d;obtain⟨a,e1,e2,e3⟩:=zfC k.co k.s.M (nH.1 d).2.1;refine⟨f,b++a,?_,λx c=>?_,λx c=>?_⟩
 ·show inp=b++a++k.s.M.coming k.co
  rw[bK,<- e1];exact e
 ·rw[zqq]
  rcases cO.1 c with c|c
  ·have:=h1 x c;omega
  ·have:=e2 x c;omega
 ·rw[zqq]
  have:=e3 x c;omega
theorem vV.rclk{inp:List Inp}{k:Cs}(h:vV inp k):k.clock.s=k.s.rclk inp/\k.clock.ln=k.ln++(k.s.M.pall inp).line/\k.clock.sm=k.sm++(k.s.M.pall inp).sample:=by
 have e:=h.pall;refine⟨?_,?_,?_⟩
 ·unfold Bst.rclk
  rw[e];rfl
 ·rw[e];rfl
 ·rw[e];rfl
theorem vV.clocks{inp:List Inp}{k:Cs}(h:vV inp k):∀ n,vV inp (k.clocks n)
 | 0=>h
 | n+1=>(h.clocks n).clock
theorem zgB:∀(l:List Inp) (a:Int),chkL l a=0->l.Pairwise (λx y=>x.c<=y.c) /\ ∀ x∈l,a<=x.c
 | [],a,_=>⟨List.Pairwise.nil,λx d=>by cases d⟩
 | x::l,a,h=>by
  by_cases q:x.c<a \/ 400000<x.c
  ·rw[chk3 q] at h;cases h
  ·by_cases hp:x.p=0 \/ x.p=1
   ·rw[chk0 q hp] at h
    obtain⟨h1,h2⟩:=zgB l x.c h;refine⟨fC.2 ⟨h2,h1⟩,λy b=>?_⟩;rcases bp.1 b with rfl|b
    ·omega
    ·have:=h2 y b;omega
   ·rw[chk5 q hp] at h;cases h
theorem vV.of{inp:List Inp}{M:Mach}(h:chkIn inp M.clock=0):vV inp ⟨⟨M,0,[]⟩,inp,[],[]⟩:=by
 have a:¬ 40<inp.length:=λe=>by unfold chkIn at h;rw[am e] at h;cases h
 have b:chkL inp M.clock=0:=by unfold chkIn at h;rw[ae a] at h;exact h
 obtain⟨h1,h2⟩:=zgB inp M.clock b;exact⟨h1,[],D,(λx c=>by cases c),h2⟩
structure Cs.may (k : Cs) : Prop where
 ln:k.ln.length<=100000
 sm:k.sm.length<=100000
 l:(Bst.stepMain ⟨k.s.M.pressed k.co,k.s.n,k.s.l⟩).l.length<=1000000
 b:pL k.now.s.M.b.l k.now.s.M.b.a k.now.s.M.b.f=true
 c:k.s.M.clock<200000
section
variable {F : Gx} {N ob : Nat} {vl vs v : π} {w W W1 : u} {inp : List Inp} {k : Cs}
theorem zyf(m:GK F N ob)(h:GC F N ob vl vs w k.s k.ln k.sm)(d:bP F.B w v inp)(f:∀ x∈inp,x.ok)(i:inp.length<=40)(j:vV inp k)(a:k.may):Calls prog 41 #[pt F.g 0,v,pt ob 0] w λe w'=>e=.returned (.tuple #[]) /\ ∃ vl' vs',GV F N ob vl' vs' w k.clock.s k.clock.ln k.clock.sm w':=by
 have e:=j.pall;obtain⟨r1,r2,r3⟩:=j.rclk;refine(zzL m h d f i a.ln a.sm (by rw[e];exact a.l) (by rw[e];exact a.b) ?_).mono ?_
 ·rw[e]
  have:=sZ k;have h2:=a.c;show k.now.s.M.clock<200000;omega
 ·rintro e2 w' ⟨h1,vl',vs',h2⟩
  rw[r1,r2,r3];exact⟨h1,vl',vs',h2⟩
theorem zyg{B:Nat}{S:Sl}{M:Mach}{ι:u}(h:OwnS B S M ι)(c:M.fit)(hB:B<=ι.heap.size)(d:Facts ι)(e:1<B/\0<B/\2<B)(t:TypeId):∃ F:Gx,F.B=B/\F.g=ι.heap.size/\(∀ k,F.all k->F.B<=k)/\GK F (ι.heap.size+1) (ι.heap.size+1)/\GC F (ι.heap.size+1) (ι.heap.size+1) (κ G 0 0) (κ G 0 0) ((ι.alloc (.cells (υ M S++sj).toArray t)).alloc (.cells #[κ G 0 0,κ G 0 0,κ G 0 0] 47)) ⟨M,0,[]⟩ [] []:=by
 obtain⟨F,e1,e2,e3,f,a,_⟩:=Gd.ofOwn h c hB t;have i:(ι.alloc (.cells (υ M S++sj).toArray t)).heap.size=ι.heap.size+1:=by simp
 refine⟨F,e1,e2,λk b=>by rw[e1];exact(a k b).1,⟨by rw[e1];omega,λk b=>by have:=(a k b).2;omega,by rw[e1];exact e,ψ _⟩,⟨jH 0,(d.kept (stA (aR ι) _)).kept (stA (aR _) _),⟨κ G 0 0,f.kept (stA (aR _) _)⟩,?_,eU _ _ _ _,eU _ _ _ _⟩⟩;rw[<- i];exact aM _ _
end
theorem ziH(s:Bst)(h:s.l.length<=1000000):s.stepAux.l.length<=s.l.length+4:=by
 unfold Bst.stepAux;split
 ·omega
 ·have c:cL.fuel s<=cL.fuel (C.step cL s.M.aux s s.M.rung).s+4:=C.fuel_step (m:=cL) (λs a=>ψ _) (λs a b=>by
   have:=zjQ s.M a (b%256);show 1000000001-s.l.length<=1000000001-(s.l++s.M.shA a (b%256)).length+1;rw[az];omega) s.M.aux s s.M.rung
  have d:1000000001-s.l.length<=1000000001-(C.step cL s.M.aux s s.M.rung).s.l.length+4:=c;show (C.step cL s.M.aux s s.M.rung).s.l.length<=s.l.length+4;omega
theorem ziI(k0:Cs)(c:k0.s.l.length<=100):∀ j:Nat,j<=20000->Cs.at k0 (k0.clocks j) j
 | 0,_=>⟨by simp[Cs.clocks],by simp[Cs.clocks],by simp[Cs.clocks],by simp[Cs.clocks]⟩
 | j+1,f=>by
  have a:=ziI k0 c j (by omega);obtain⟨k,b⟩:∃ k,k=k0.clocks j:=⟨_,D⟩
  have e:k0.clocks (j+1)=k.clock:=by rw[b];rfl
  rw[<- b] at a;rw[e];obtain⟨d,i2,i3,i4⟩:=a;refine⟨?_,?_,?_,?_⟩
  ·show k.now.s.M.clock+1=_
   rw[sZ,d];push_cast;omega
  ·show (k.ln++(k.s.M.pressed k.co).line).length<=_
   have:=zj8 (k.s.M.pressed k.co);rw[az];omega
  ·show (k.sm++(k.s.M.pressed k.co).sample).length<=_
   have:=AU (k.s.M.pressed k.co);rw[az];omega
  ·show ((Bst.stepMain ⟨k.s.M.pressed k.co,k.s.n,k.s.l⟩).stepAux).l.length<=_
   have h1:(Bst.stepMain ⟨k.s.M.pressed k.co,k.s.n,k.s.l⟩).l=k.s.l:=zQ _;have h2:=ziH (Bst.stepMain ⟨k.s.M.pressed k.co,k.s.n,k.s.l⟩) (by rw[h1];omega);rw[h1] at h2;omega
theorem xV{M:Mach}{inp:List Inp}{n j:Nat}(g:M.fit)(e:M.b.f<=19900)(p:n<=20000/\M.clock+n<=200000)(q:j<n):(Cs.clocks ⟨⟨M,0,[]⟩,inp,[],[]⟩ j).may:=by
 have hb:=g.b;have c:=zcy ⟨⟨M,0,[]⟩,inp,[],[]⟩ ⟨hb.l0,hb.l1,hb.a0,hb.a1,hb.f0,by show M.b.f<=20000;omega⟩ e j (by omega);obtain⟨a1,a2,a3,a4⟩:=ziI ⟨⟨M,0,[]⟩,inp,[],[]⟩ (by simp) j (by omega);generalize Cs.clocks ⟨⟨M,0,[]⟩,inp,[],[]⟩ j=k at *;have h:k.ln.length<=0+j:=a2;have i:k.sm.length<=0+j:=a3;have m:k.s.l.length<=0+4*j:=a4;have o:k.s.M.clock=M.clock+j:=a1;have d:=zgw k;have b0:=hb.l0;have b1:=hb.l1;have b2:=hb.a0;have b3:=hb.a1;have b4:=hb.f0;refine⟨by omega,by omega,?_,(qo _ _ _).2 ?_,by omega⟩
 ·rw[zQ]
  show k.s.l.length<=1000000;omega
 ·refine⟨?_,?_,?_,?_,?_,?_⟩
  ·rw[d.l,c.l];show 0<=lC M.b.l M.b.a j;unfold lC;omega
  ·rw[d.l,c.l];show lC M.b.l M.b.a j<=9;unfold lC;omega
  ·rw[d.a,c.a];show 0<=kA M.b.l M.b.a j;unfold kA;omega
  ·rw[d.a,c.a];show kA M.b.l M.b.a j<=63;unfold kA;omega
  ·rw[d.f,c.f];show 0<=lS M.b.l M.b.a M.b.f j;unfold lS;omega
  ·rw[d.f,c.f];show lS M.b.l M.b.a M.b.f j<=20000;unfold lS;omega
end Go.Proofs.YthghjlinhokimaaGreatDoor
