/-
  Parts of a proof, joined.
-/
import Derived.Test.YthghjlinhokimaaGreatDoorZcA
import Derived.Test.YthghjlinhokimaaGreatDoorZc40
import Derived.Test.YthghjlinhokimaaGreatDoorZc41
import Derived.Test.YthghjlinhokimaaGreatDoorZc42
set_option linter.all false
set_option maxRecDepth 100000
set_option maxHeartbeats 6400000
namespace Go.Proofs.YthghjlinhokimaaGreatDoor
open Go.ChangeShapes Go.WideShapes Go.ChangeAt Go.RowKit Go.Proofs.Tryz
def Mach.pall(M:Mach):List Inp->Mach
 | []=>M
 | x::l=>(if x.c=M.clock then M.press x else M).pall l
def Bst.rclk(s:Bst)(l:List Inp):Bst :=
 let y:=(Bst.stepMain ⟨s.M.pall l,s.n,s.l⟩).stepAux
 ⟨y.M.goOn,y.n,y.l⟩
section
variable {F : Gx} {N ob : Nat} {vl vs v : Value} {w W W1 W3 : World} {s : Bst} {ln : List Lin} {sm : List UInt8} {M : Mach} {n : Int} {l : List Wt} {inp : List Inp}
theorem znO(k:Nat)(z:Code)(h:jc k eH=.seq (dN 0 (jc k eH)) z){aj:Exit->Act->World->Prop}{a:Act}(b:Code.wp prog (.seq (dN 0 (jc k eH)) z) aj a W):Code.wp prog (jc k eH) aj a W:=by
 rw[h];exact b
def nF(p:Pd):List Value:=[.int .u8 p.d,.bool p.l,.int .u8 p.s]
structure GB (F : Gx) (N ob : Nat) (vl vs : Value) (w : World) (s : Bst) (ln : List Lin) (sm : List UInt8) (b : Nat) (x : Inp) (W : World) : Prop where
 c:GV F N ob vl vs w s ln sm W
 bx:Bx W b [.int .i64 x.c,.int .i64 x.p,.int .u8 x.d]
theorem GB.kept{b:Nat}{x:Inp}(h:GB F N ob vl vs w s ln sm b x W)(hb:Below W.heap.size W W1):GB F N ob vl vs w s ln sm b x W1:=⟨h.c.kept hb,h.bx.kept hb⟩
theorem GB.sp0{b:Nat}{x:Inp}(h:GB F N ob vl vs w s ln sm b x W)(hp:x.p=0):W.cell? ⟨b,1,none⟩=some (.int .i64 0)/\W.cell? ⟨b,2,none⟩=some (.int .u8 x.d)/\W.rangeAt F.g 35 (nF s.M.p0):=by
 obtain⟨v,a⟩:=h.c.c.gd;exact⟨by rw[<- hp];exact h.bx.at 1 _ U,h.bx.at 2 _ U,a.bx.mid 35 3⟩
theorem GB.sp1{b:Nat}{x:Inp}(h:GB F N ob vl vs w s ln sm b x W)(hp:x.p=1):W.cell? ⟨b,1,none⟩=some (.int .i64 1)/\W.cell? ⟨b,2,none⟩=some (.int .u8 x.d)/\W.rangeAt F.g 38 (nF s.M.p1):=by
 obtain⟨v,a⟩:=h.c.c.gd;exact⟨by rw[<- hp];exact h.bx.at 1 _ U,h.bx.at 2 _ U,a.bx.mid 38 3⟩
theorem zyp(c:GK F N ob)(a:Act)(i:Ck a F.g v ob)(h:GV F N ob vl vs w s ln sm W)(d:ln.length<=100000)(e:sm.length<=100000)(j:s.stepMain.l.length<=1000000)(hb:na s.stepMain.stepAux.M.b.l s.stepMain.stepAux.M.b.a s.stepMain.stepAux.M.b.f=true)(hc:s.stepMain.stepAux.M.clock<200000):Code.wp prog (jc 2 eH) (bodyPost prog Tryz.f41 (KP F N ob w ⟨s.stepMain.stepAux.M.goOn,s.stepMain.stepAux.n,s.stepMain.stepAux.l⟩ (ln++s.M.line) (sm++s.M.sample))) a W:=by
 refine znO 2 (jc 3 eH) U (zyo c _ _ a i h d (λa1 W1 k c1 g1=>?_));refine znO 3 (jc 4 eH) U (zut c _ _ a1 c1 g1 e (λa2 p m c2 o=>?_));refine znO 4 (jc 5 eH) U (zym c _ _ a2 c2 o (λa3 W3 c3 g3=>?_));refine znO 5 (jc 6 eH) U (xx c _ _ a3 c3 g3 j (λa4 q c4 g4=>?_));exact xw c a4 c4 g4 hb hc
theorem zwP(y:GK F N ob)(h:GC F N ob vl vs w s ln sm)(Z:bE F.B w v inp)(hok:∀ x∈inp,x.ok)(hli:inp.length<=40)(hln:ln.length<=100000)(hsm:sm.length<=100000)(hl:(Bst.stepMain ⟨s.M.pall inp,s.n,s.l⟩).l.length<=1000000)
 (hb:na (Bst.stepMain ⟨s.M.pall inp,s.n,s.l⟩).stepAux.M.b.l (Bst.stepMain ⟨s.M.pall inp,s.n,s.l⟩).stepAux.M.b.a (Bst.stepMain ⟨s.M.pall inp,s.n,s.l⟩).stepAux.M.b.f=true) (hc:(Bst.stepMain ⟨s.M.pall inp,s.n,s.l⟩).stepAux.M.clock<200000) :
 Calls prog 41 #[pt F.g 0,v,pt ob 0] w (KP F N ob w (s.rclk inp) (ln++(s.M.pall inp).line) (sm++(s.M.pall inp).sample)):=by
 obtain⟨a1,k1,e1⟩:=Z.len;subst e1;obtain⟨M,n,l⟩:=s;have HZ:=hid (λ(a:Act) (W:World) (hC:Ck a F.g (.slice a1 inp.length k1) ob) (h:GV F N ob vl vs w ⟨M.pall inp,n,l⟩ ln sm W)=>zyp y a hC h hln hsm hl hb hc);have HP0:Hid (KP F N ob w (Bst.rclk ⟨M,n,l⟩ inp) (ln++(M.pall inp).line) (sm++(M.pall inp).sample)=KP F N ob w (Bst.rclk ⟨M,n,l⟩ inp) (ln++(M.pall inp).line) (sm++(M.pall inp).sample)):=hid U;have HIN:=hid Z;have HK:=hid y;have HOK:=hid hok;have HH0:Hid (GV F N ob vl vs w ⟨M,n,l⟩ ln sm w):=hid (GV.start h);obtain⟨mz,mf⟩:=h.gz;clear y hok hln hsm hl hb hc h Z;go_enter func41,ntmps41;show Code.wp _ (.seq (dN 0 eH) (.seq (dN 0 (jc 1 eH)) (jc 2 eH))) _ _ _;generalize (jc 2 eH)=z at *;conv=>arg 2;arg 1;dsimp only[jc,dN,eH,Tryz.f41,Option.getD]
 conv=>arg 2;arg 2;arg 1;dsimp only[jc,dN,eH,Tryz.f41,Option.getD]
 go_wp2;go_loopw [18] (λi wr=>∃ j:Nat,j<=inp.length/\i=.int .i64 j /\ ∃ m:Mach,GV F N ob vl vs w ⟨m,n,l⟩ ln sm wr/\m.pall (inp.drop j)=M.pall inp) (λi _=>inp.length-(intOf i).toNat)
 case atStart=>exact⟨0,aU _,U,M,HH0.out,U⟩
 case round =>
  obtain⟨j,hj,rfl,m,hG,hP⟩:=hrel;have HG:=hid hG;have HP:=hid hP;by_cases E:j<inp.length
  ·have H:=hid E
   obtain⟨x,hx⟩:∃ x,inp[j]?=some x:=⟨_,au E⟩
   have hd:inp.drop j=x::inp.drop (j+1):=by
    rw[cf E];congr 1;rw[au E] at hx;exact aH hx
   have hxo:x.ok:=HOK.out x (bh hx);have HXO:=hid hxo;have HH:=HIN.out.kept hG.b;obtain⟨g,o,k,ev,gz,x0,x1,x2⟩:=HH.at' hx;cases ev;have hjl:(j:Int)<inp.length:=by omega
   have hj0:(0:Int)<=j:=by omega
   have hj40:(j:Int)<40:=by omega
   have HD:=hid hd;have m72:=hG.c.at 72 (.int .i64 m.clock) (by decide) U;obtain⟨gz1,gf1⟩:=hG.c.gz;clear hP hd hx HH hxo hG mz mf;by_cases q:x.c=m.clock
   ·have hq:(x.c == m.clock)=true:=by simpa using q
    have HQ:=hid q;clear q;rcases HXO.out.p with hp|hp
    ·rw[hp] at x1
     have L:m.press x={ m with p0:=m.p0.press x.d }:=by unfold Mach.press;simp[hp]
     go_wp2;go_region_held3 (λw'=>w'.cell? ⟨wr.heap.size,0,none⟩=some (.int .i64 x.c)/\w'.cell? ⟨F.g,72,none⟩=some (.int .i64 m.clock))
      ((go_keep;done))
      (fail)
     go_upto_region 5 with fail
     refine Pl.cutW (GB F N ob vl vs w ⟨m,n,l⟩ ln sm wr.heap.size x) ⟨HG.out.kept (stA (J wr) _).drew,by rw[hp];exact(Bx.new wr [.int .i64 x.c,.int .i64 0,.int .u8 x.d] _ U).kept (J _).drew⟩ ?_;intro V hV;have HV:=hid (hV.kept (J V).drew);have r:=HV.out.sp0 hp;have P:=hid L;clear hV L x0 x1 x2 m72;refine mI (S:=λw'=>w'.cell? ⟨wr.heap.size,1,none⟩=some (.int .i64 0)/\w'.cell? ⟨wr.heap.size,2,none⟩=some (.int .u8 x.d)/\w'.rangeAt F.g 35 (nF m.p0)) (st:=15) (by kernel_rfl) ?_;refine bI 0 (λ_=>r) ?_;refine bI 1 (λ_=>r) ?_;refine bI 3 (λ_=>r) ?_;refine bI 4 (λ_=>r) ?_;refine bI 6 (λ_=>r) ?_;refine bI 7 (λ_=>r) ?_;refine bI 10 (λ_=>r) ?_;refine bI 13 (λ_=>r) ?_;refine bI 14 (λ_=>r) ?_;refine mJ [15] (i:=2) (oi:=⟨some 31,_,_,_,_,none⟩) (v:=.int .i64 0) U (Or.inl ⟨by rfl,?_⟩) r ?_
     ·intro w' t
      have u:=t.1;have R:=aG w' _ u;go_simp;try (with_reducible rfl)
     simp only[Act.put,xA,xB,xC];refine mJ [15] (i:=5) (oi:=⟨some 34,_,_,_,_,none⟩) (v:=.int .i64 0) U (Or.inl ⟨by rfl,?_⟩) r ?_
     ·intro w' t
      have u:=t.1;have R:=aG w' _ u;go_simp;try (with_reducible rfl)
     simp only[Act.put,xA,xB,xC];refine bI 8 (λ_=>r) ?_;refine mJ [15] (i:=9) (oi:=⟨some 38,_,_,_,_,none⟩) (v:=.agg (nF m.p0).toArray) U (Or.inl ⟨by rfl,λw' t=>kt 28 _ U F.g 35 U (nF m.p0) _ t.2.2 underlying28 U pO⟩) r ?_;simp only[Act.put,xA,xB,xC];refine mJ [15] (i:=11) (oi:=⟨some 40,_,_,_,_,none⟩) (v:=.int .u8 x.d) U (Or.inl ⟨by rfl,?_⟩) r ?_
     ·intro w' t
      have u:=t.2.1;have R:=aG w' _ u;go_simp;try (with_reducible rfl)
     simp only[Act.put,xA,xB,xC];refine fP 12 (λK y=>?_);go_simp;go_at_call 70
     refine(znn _ _ _ _ _).mono ?_;rintro e w8 ⟨rfl,T⟩;have I:=hid (HV.out.kept T);clear T;try go_wp2_with fail
     refine gL y (λ_=>I.out.sp0 hp) ?_;clear y K;clear r;have r:=I.out.sp0 hp;refine fP 15 (λK y=>?_);go_simp;refine gL y (λh=>by simp at h) ?_;clear y K;refine fP 16 (λK y=>?_);refine lW U 28 _ _ U F.g 35 (nF (m.p0.press x.d)).toArray U U (I.out.c.c.th 35 3 (by decide)) pO (ziF (m.p0.press x.d)) ?_;refine y.out _ _ (λh=>by simp at h) ?_;clear y K;refine lL (by kernel_rfl) ?_ _;have X:=I.out.c.puts (M':={ m with p0:=m.p0.press x.d }) HK.out 35 (nF (m.p0.press x.d)) (by simp[nF]) (λ_=>U) ⟨U,U,U,U,U⟩ (by have:=zef I.out.c.c.fit HXO.out;rw[show (⟨m,n,l⟩:Bst).M.press x=_ from P.out] at this;exact this);refine Pl.cutE (GV F N ob vl vs w ⟨{ m with p0:=m.p0.press x.d },n,l⟩ ln sm) X ?_;intro V2 Y;have HV2:=hid Y;clear Y X r I HV;go_wp2
     go_roundw
     case rel=>exact⟨j+1,H.out,by go_num,_,HV2.out,by rw[<- HP.out,HD.out];show _=(if x.c=m.clock then m.press x else m).pall _;rw[Q HQ.out,P.out]⟩
     case measure=>have E:=H.out;simp[intOf];omega
    ·rw[hp] at x1
     have L:m.press x={ m with p1:=m.p1.press x.d }:=by unfold Mach.press;simp[hp]
     go_wp2;go_region_held3 (λw'=>w'.cell? ⟨wr.heap.size,0,none⟩=some (.int .i64 x.c)/\w'.cell? ⟨F.g,72,none⟩=some (.int .i64 m.clock))
      ((go_keep;done))
      (fail)
     go_upto_region 5 with fail
     refine Pl.cutW (GB F N ob vl vs w ⟨m,n,l⟩ ln sm wr.heap.size x) ⟨HG.out.kept (stA (J wr) _).drew,by rw[hp];exact(Bx.new wr [.int .i64 x.c,.int .i64 1,.int .u8 x.d] _ U).kept (J _).drew⟩ ?_;intro V hV;have HV:=hid (hV.kept (J V).drew);have r:=HV.out.sp1 hp;have P:=hid L;clear hV L x0 x1 x2 m72;refine mI (S:=λw'=>w'.cell? ⟨wr.heap.size,1,none⟩=some (.int .i64 1)/\w'.cell? ⟨wr.heap.size,2,none⟩=some (.int .u8 x.d)/\w'.rangeAt F.g 38 (nF m.p1)) (st:=15) (by kernel_rfl) ?_;refine bI 0 (λ_=>r) ?_;refine bI 1 (λ_=>r) ?_;refine bI 3 (λ_=>r) ?_;refine bI 4 (λ_=>r) ?_;refine bI 6 (λ_=>r) ?_;refine bI 7 (λ_=>r) ?_;refine bI 10 (λ_=>r) ?_;refine bI 13 (λ_=>r) ?_;refine bI 14 (λ_=>r) ?_;refine mJ [15] (i:=2) (oi:=⟨some 31,_,_,_,_,none⟩) (v:=.int .i64 1) U (Or.inl ⟨by rfl,?_⟩) r ?_
     ·intro w' t
      have u:=t.1;have R:=aG w' _ u;go_simp;try (with_reducible rfl)
     simp only[Act.put,xA,xB,xC];refine mJ [15] (i:=5) (oi:=⟨some 34,_,_,_,_,none⟩) (v:=.int .i64 1) U (Or.inl ⟨by rfl,?_⟩) r ?_
     ·intro w' t
      have u:=t.1;have R:=aG w' _ u;go_simp;try (with_reducible rfl)
     simp only[Act.put,xA,xB,xC];refine bI 8 (λ_=>r) ?_;refine mJ [15] (i:=9) (oi:=⟨some 38,_,_,_,_,none⟩) (v:=.agg (nF m.p1).toArray) U (Or.inl ⟨by rfl,λw' t=>kt 28 _ U F.g 38 U (nF m.p1) _ t.2.2 underlying28 U pO⟩) r ?_;simp only[Act.put,xA,xB,xC];refine mJ [15] (i:=11) (oi:=⟨some 40,_,_,_,_,none⟩) (v:=.int .u8 x.d) U (Or.inl ⟨by rfl,?_⟩) r ?_
     ·intro w' t
      have u:=t.2.1;have R:=aG w' _ u;go_simp;try (with_reducible rfl)
     simp only[Act.put,xA,xB,xC];refine fP 12 (λK y=>?_);go_simp;go_at_call 70
     refine(znn _ _ _ _ _).mono ?_;rintro e w8 ⟨rfl,T⟩;have I:=hid (HV.out.kept T);clear T;try go_wp2_with fail
     refine gL y (λ_=>I.out.sp1 hp) ?_;clear y K;clear r;have r:=I.out.sp1 hp;refine fP 15 (λK y=>?_);go_simp;refine gL y (λh=>by simp at h) ?_;clear y K;refine fP 16 (λK y=>?_);refine lW U 28 _ _ U F.g 38 (nF (m.p1.press x.d)).toArray U U (I.out.c.c.th 38 3 (by decide)) pO (ziF (m.p1.press x.d)) ?_;refine y.out _ _ (λh=>by simp at h) ?_;clear y K;refine lL (by kernel_rfl) ?_ _;have X:=I.out.c.puts (M':={ m with p1:=m.p1.press x.d }) HK.out 38 (nF (m.p1.press x.d)) (by simp[nF]) (λ_=>U) ⟨U,U,U,U,U⟩ (by have:=zef I.out.c.c.fit HXO.out;rw[show (⟨m,n,l⟩:Bst).M.press x=_ from P.out] at this;exact this);refine Pl.cutE (GV F N ob vl vs w ⟨{ m with p1:=m.p1.press x.d },n,l⟩ ln sm) X ?_;intro V2 Y;have HV2:=hid Y;clear Y X r I HV;go_wp2
     go_roundw
     case rel=>exact⟨j+1,H.out,by go_num,_,HV2.out,by rw[<- HP.out,HD.out];show _=(if x.c=m.clock then m.press x else m).pall _;rw[Q HQ.out,P.out]⟩
     case measure=>have E:=H.out;simp[intOf];omega
   ·have hq:(x.c == m.clock)=false:=by simpa using q
    have HQ:=hid q;clear q;go_wp2;go_region_held3 (λw'=>w'.cell? ⟨wr.heap.size,0,none⟩=some (.int .i64 x.c)/\w'.cell? ⟨F.g,72,none⟩=some (.int .i64 m.clock))
     ((go_keep;done))
     (fail)
    go_wp2
    go_roundw
    case rel=>exact⟨j+1,H.out,by go_num,m,HG.out.kept (stA (J wr) _).drew,by rw[<- HP.out,HD.out];show _=(if x.c=m.clock then m.press x else m).pall _;rw[G HQ.out]⟩
    case measure=>have E:=H.out;simp[intOf];omega
  ·obtain rfl:j=inp.length:=by omega
   rw[di] at hP;have hP':m=M.pall inp:=hP;subst hP';clear hP;go_wp2;exact HZ.out _ _ ⟨U,U,U,U,U,U⟩ HG.out
end
theorem znP:∀(a b:List Inp) (M:Mach),M.pall (a++b)=(M.pall a).pall b
 | [],b,M=>rfl
 | x::a,b,M=>znP a b _
theorem zmj:∀(l:List Inp) (M:Mach),(∀ x∈l,x.c≠M.clock)->M.pall l=M
 | [],M,_=>rfl
 | x::l,M,h=>by
  show (if x.c=M.clock then M.press x else M).pall l=M;rw[G (h x bl)];exact zmj l M (λy a=>h y (bq _ a))
theorem zsd:∀(l:List Inp) (M:Mach),l.Pairwise (λx y=>x.c<=y.c)->(∀ x∈l,M.clock<=x.c)->M.pall l=M.pressed l
 | [],M,_,_=>rfl
 | x::l,M,b,h=>by
  obtain⟨h1,h2⟩:=dp.1 b;have d:=h x bl;show (if x.c=M.clock then M.press x else M).pall l=if x.c<=M.clock then (M.press x).pressed l else M
  by_cases e:x.c=M.clock
  ·rw[Q e,Q (Int.le_of_eq e)]
   exact zsd l (M.press x) h2 (λy a=>by rw[zdD];exact h y (bq _ a))
  ·rw[G e,G (by omega)]
   exact zmj l M (λy a=>by have:=h1 y a;omega)
theorem zeZ:∀(l:List Inp) (M:Mach),l.Pairwise (λx y=>x.c<=y.c)->∃ a,l=a++M.coming l/\(∀ x∈a,x.c<=M.clock) /\ ∀ x∈M.coming l,M.clock<x.c
 | [],M,_=>⟨[],U,(λx d=>by cases d),λx d=>by cases d⟩
 | x::l,M,g=>by
  obtain⟨h1,h2⟩:=dp.1 g;by_cases e:x.c<=M.clock
  ·obtain⟨a,e1,e2,e3⟩:=zeZ l M h2
   have f:M.coming (x::l)=M.coming l:=Q e;rw[f];refine⟨x::a,by rw[cQ,<- e1],λy b=>?_,e3⟩;rcases aV.1 b with rfl|b
   ·exact e
   ·exact e2 y b
  ·have f:M.coming (x::l)=x::l:=G e
   rw[f];refine⟨[],U,(λy b=>by cases b),λy b=>?_⟩;rcases aV.1 b with rfl|b
   ·omega
   ·have:=h1 y b;omega
def pG(inp:List Inp)(k:Cs):Prop:=inp.Pairwise (λx y=>x.c<=y.c) /\ ∃ a,inp=a++k.co/\(∀ x∈a,x.c<k.s.M.clock) /\ ∀ x∈k.co,k.s.M.clock<=x.c
theorem pG.pall{inp:List Inp}{k:Cs}(h:pG inp k):k.s.M.pall inp=k.s.M.pressed k.co:=by
 obtain⟨b,a,e,h1,h2⟩:=h;rw[e,znP,zmj a k.s.M (λx c=>by have:=h1 x c;omega)];rw[e] at b;exact zsd _ _ (j0.1 b).2.1 h2
theorem znQ(k:Cs):k.clock.s.M.clock=k.s.M.clock+1:=by
 show k.now.s.M.clock+1=_;rw[rA]
theorem pG.clock{inp:List Inp}{k:Cs}(h:pG inp k):pG inp k.clock:=by
 obtain⟨f,b,e,h1,h2⟩:=h;have d:=f;rw[e] at d;obtain⟨a,e1,e2,e3⟩:=zeZ k.co k.s.M (j0.1 d).2.1;refine⟨f,b++a,?_,λx c=>?_,λx c=>?_⟩
 ·show inp=b++a++k.s.M.coming k.co
  rw[bp,<- e1];exact e
 ·rw[znQ]
  rcases bS.1 c with c|c
  ·have:=h1 x c;omega
  ·have:=e2 x c;omega
 ·rw[znQ]
  have:=e3 x c;omega
theorem pG.rclk{inp:List Inp}{k:Cs}(h:pG inp k):k.clock.s=k.s.rclk inp/\k.clock.ln=k.ln++(k.s.M.pall inp).line/\k.clock.sm=k.sm++(k.s.M.pall inp).sample:=by
 have e:=h.pall;refine⟨?_,?_,?_⟩
 ·unfold Bst.rclk
  rw[e];rfl
 ·rw[e];rfl
 ·rw[e];rfl
theorem pG.clocks{inp:List Inp}{k:Cs}(h:pG inp k):∀ n,pG inp (k.clocks n)
 | 0=>h
 | n+1=>(h.clocks n).clock
theorem zfV:∀(l:List Inp) (a:Int),chkL l a=0->l.Pairwise (λx y=>x.c<=y.c) /\ ∀ x∈l,a<=x.c
 | [],a,_=>⟨List.Pairwise.nil,λx d=>by cases d⟩
 | x::l,a,h=>by
  by_cases q:x.c<a \/ 400000<x.c
  ·rw[chk3 q] at h;cases h
  ·by_cases hp:x.p=0 \/ x.p=1
   ·rw[chk0 q hp] at h
    obtain⟨h1,h2⟩:=zfV l x.c h;refine⟨dp.2 ⟨h2,h1⟩,λy b=>?_⟩;rcases aV.1 b with rfl|b
    ·omega
    ·have:=h2 y b;omega
   ·rw[chk5 q hp] at h;cases h
theorem pG.of{inp:List Inp}{M:Mach}(h:chkIn inp M.clock=0):pG inp ⟨⟨M,0,[]⟩,inp,[],[]⟩:=by
 have a:¬ 40<inp.length:=λe=>by unfold chkIn at h;rw[Q e] at h;cases h
 have b:chkL inp M.clock=0:=by unfold chkIn at h;rw[G a] at h;exact h
 obtain⟨h1,h2⟩:=zfV inp M.clock b;exact⟨h1,[],U,(λx c=>by cases c),h2⟩
structure Cs.may (k : Cs) : Prop where
 ln:k.ln.length<=100000
 sm:k.sm.length<=100000
 l:(Bst.stepMain ⟨k.s.M.pressed k.co,k.s.n,k.s.l⟩).l.length<=1000000
 b:na k.now.s.M.b.l k.now.s.M.b.a k.now.s.M.b.f=true
 c:k.s.M.clock<200000
section
variable {F : Gx} {N ob : Nat} {vl vs v : Value} {w W W1 : World} {inp : List Inp} {k : Cs}
theorem zvj(m:GK F N ob)(h:GC F N ob vl vs w k.s k.ln k.sm)(d:bE F.B w v inp)(f:∀ x∈inp,x.ok)(i:inp.length<=40)(j:pG inp k)(a:k.may):Calls prog 41 #[pt F.g 0,v,pt ob 0] w λe w'=>e=.returned (.tuple #[]) /\ ∃ vl' vs',GV F N ob vl' vs' w k.clock.s k.clock.ln k.clock.sm w':=by
 have e:=j.pall;obtain⟨r1,r2,r3⟩:=j.rclk;refine(zwP m h d f i a.ln a.sm (by rw[e];exact a.l) (by rw[e];exact a.b) ?_).mono ?_
 ·rw[e]
  have:=rA k;have h2:=a.c;show k.now.s.M.clock<200000;omega
 ·rintro e2 w' ⟨h1,vl',vs',h2⟩
  rw[r1,r2,r3];exact⟨h1,vl',vs',h2⟩
theorem zvk{B:Nat}{S:Sl}{M:Mach}{Y:World}(h:OwnS B S M Y)(c:M.fit)(hB:B<=Y.heap.size)(d:Facts Y)(e:1<B/\0<B/\2<B)(t:TypeId):∃ F:Gx,F.B=B/\F.g=Y.heap.size/\(∀ k,F.all k->F.B<=k)/\GK F (Y.heap.size+1) (Y.heap.size+1)/\GC F (Y.heap.size+1) (Y.heap.size+1) (.slice none 0 0) (.slice none 0 0) ((Y.alloc (.cells (D M S++nf).toArray t)).alloc (.cells #[.slice none 0 0,.slice none 0 0,.slice none 0 0] 47)) ⟨M,0,[]⟩ [] []:=by
 obtain⟨F,e1,e2,e3,f,a,_⟩:=Gd.ofOwn h c hB t;have i:(Y.alloc (.cells (D M S++nf).toArray t)).heap.size=Y.heap.size+1:=by simp
 refine⟨F,e1,e2,λk b=>by rw[e1];exact(a k b).1,⟨by rw[e1];omega,λk b=>by have:=(a k b).2;omega,by rw[e1];exact e,ak _⟩,⟨iO 0,(d.kept (stA (J Y) _)).kept (stA (J _) _),⟨.slice none 0 0,f.kept (stA (J _) _)⟩,?_,cW _ _ _ _,cW _ _ _ _⟩⟩;rw[<- i];exact aJ _ _
end
theorem zpn(s:Bst)(h:s.l.length<=1000000):s.stepAux.l.length<=s.l.length+4:=by
 unfold Bst.stepAux;split
 ·omega
 ·have c:bY.fuel s<=bY.fuel (C.step bY s.M.aux s s.M.rung).s+4:=C.fuel_step (m:=bY) (λs a=>ak _) (λs a b=>by
   have:=zir s.M a (b%256);show 1000000001-s.l.length<=1000000001-(s.l++s.M.shA a (b%256)).length+1;rw[aC];omega) s.M.aux s s.M.rung
  have d:1000000001-s.l.length<=1000000001-(C.step bY s.M.aux s s.M.rung).s.l.length+4:=c;show (C.step bY s.M.aux s s.M.rung).s.l.length<=s.l.length+4;omega
theorem zhp(a:Cs)(d:a.s.l.length<=100):∀ j:Nat,j<=20000->Cs.at a (a.clocks j) j
 | 0,_=>⟨by simp[Cs.clocks],by simp[Cs.clocks],by simp[Cs.clocks],by simp[Cs.clocks]⟩
 | j+1,g=>by
  have b:=zhp a d j (by omega);obtain⟨k,c⟩:∃ k,k=a.clocks j:=⟨_,U⟩
  have e:a.clocks (j+1)=k.clock:=by rw[c];rfl
  rw[<- c] at b;rw[e];obtain⟨f,i2,i3,i4⟩:=b;refine⟨?_,?_,?_,?_⟩
  ·show k.now.s.M.clock+1=_
   rw[rA,f];push_cast;omega
  ·show (k.ln++(k.s.M.pressed k.co).line).length<=_
   have:=zl6 (k.s.M.pressed k.co);rw[aC];omega
  ·show (k.sm++(k.s.M.pressed k.co).sample).length<=_
   have:=zfP (k.s.M.pressed k.co);rw[aC];omega
  ·show ((Bst.stepMain ⟨k.s.M.pressed k.co,k.s.n,k.s.l⟩).stepAux).l.length<=_
   have h1:(Bst.stepMain ⟨k.s.M.pressed k.co,k.s.n,k.s.l⟩).l=k.s.l:=ve _;have h2:=zpn (Bst.stepMain ⟨k.s.M.pressed k.co,k.s.n,k.s.l⟩) (by rw[h1];omega);rw[h1] at h2;omega
theorem qU{M:Mach}{inp:List Inp}{n j:Nat}(g:M.fit)(e:M.b.f<=19900)(p:n<=20000/\M.clock+n<=200000)(q:j<n):(Cs.clocks ⟨⟨M,0,[]⟩,inp,[],[]⟩ j).may:=by
 have hb:=g.b;have c:=zcU ⟨⟨M,0,[]⟩,inp,[],[]⟩ ⟨hb.l0,hb.l1,hb.a0,hb.a1,hb.f0,by show M.b.f<=20000;omega⟩ e j (by omega);obtain⟨a1,a2,a3,a4⟩:=zhp ⟨⟨M,0,[]⟩,inp,[],[]⟩ (by simp) j (by omega);generalize Cs.clocks ⟨⟨M,0,[]⟩,inp,[],[]⟩ j=k at *;have h:k.ln.length<=0+j:=a2;have i:k.sm.length<=0+j:=a3;have m:k.s.l.length<=0+4*j:=a4;have o:k.s.M.clock=M.clock+j:=a1;have d:=zj2 k;have b0:=hb.l0;have b1:=hb.l1;have b2:=hb.a0;have b3:=hb.a1;have r:=hb.f0;refine⟨by omega,by omega,?_,(oK _ _ _).2 ?_,by omega⟩
 ·rw[ve]
  show k.s.l.length<=1000000;omega
 ·refine⟨?_,?_,?_,?_,?_,?_⟩
  ·rw[d.l,c.l];show 0<=jI M.b.l M.b.a j;unfold jI;omega
  ·rw[d.l,c.l];show jI M.b.l M.b.a j<=9;unfold jI;omega
  ·rw[d.a,c.a];show 0<=i6 M.b.l M.b.a j;unfold i6;omega
  ·rw[d.a,c.a];show i6 M.b.l M.b.a j<=63;unfold i6;omega
  ·rw[d.f,c.f];show 0<=j3 M.b.l M.b.a M.b.f j;unfold j3;omega
  ·rw[d.f,c.f];show j3 M.b.l M.b.a M.b.f j<=20000;unfold j3;omega
end Go.Proofs.YthghjlinhokimaaGreatDoor
