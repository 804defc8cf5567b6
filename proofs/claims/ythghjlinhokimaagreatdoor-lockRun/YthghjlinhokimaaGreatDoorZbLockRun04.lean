/-
  Parts of a proof, joined.
-/
import Derived.Test.YthghjlinhokimaaGreatDoorZbA
import Derived.Test.YthghjlinhokimaaGreatDoorZbLockRun02
set_option linter.all false
set_option maxRecDepth 100000
set_option maxHeartbeats 6400000
open Option renaming none->G,some->A
open Go renaming World->u,Value->π,Calls->Δ,TypeId->aJ,MemPlace->dZ,DataW->fF,binOp->fG,reachBytes->iS
open Bool renaming false->ξ,true->Γ
open Go.Proofs.Tryz renaming prog->ω
open Go.Act renaming put->ag
open Go.DataW renaming trod->dh,Trod->dm,weights->qu
open Go.Program renaming fieldsOf->dX
open Go.Value renaming int->J,slice->κ,bool->ν,agg->ac
open Go.IntKind renaming i64->Q,u8->au
open Go.Ending renaming returned->μ
namespace Go.Proofs.YthghjlinhokimaaGreatDoor
open Go.ChangeShapes Go.WideShapes Go.ChangeAt Go.RowKit Go.Proofs.Tryz
structure CkW (w : u) (u0 u1 u2 u3 u4 : Option Addr) (n0 n1 n2 n3 n4 c0 c1 c2 c3 c4 : Nat) (x l a f k m q : Int) (g : Bool) (ι : u) : Prop where
 low:Below w.heap.size w ι
 z:w.heap.size<ι.heap.size
 r0:ι.cell? ⟨w.heap.size,30,G⟩=A (κ u0 n0 c0)
 r1:ι.cell? ⟨w.heap.size,31,G⟩=A (κ u1 n1 c1)
 r2:ι.cell? ⟨w.heap.size,32,G⟩=A (κ u2 n2 c2)
 r3:ι.cell? ⟨w.heap.size,33,G⟩=A (κ u3 n3 c3)
 r4:ι.cell? ⟨w.heap.size,34,G⟩=A (κ u4 n4 c4)
 s:ι.cell? ⟨w.heap.size,60,G⟩=A (J Q x)
 b0:ι.cell? ⟨w.heap.size,61,G⟩=A (J Q l)
 b1:ι.cell? ⟨w.heap.size,62,G⟩=A (J Q a)
 b2:ι.cell? ⟨w.heap.size,63,G⟩=A (ν g)
 b3:ι.cell? ⟨w.heap.size,64,G⟩=A (J Q f)
 k:ι.cell? ⟨w.heap.size,72,G⟩=A (J Q k)
 m:ι.cell? ⟨w.heap.size,73,G⟩=A (J Q m)
 q:ι.cell? ⟨w.heap.size,74,G⟩=A (J Q q)
theorem CkW.mk0(M:Mach)(S:Sl)(w:u)(t:aJ){u0 u1 u2 u3 u4:Option Addr}{c0 c1 c2 c3 c4:Nat}(c:S.get 0=κ u0 M.mrom.length c0)(e1:S.get 1=κ u1 M.arom.length c1)(e2:S.get 2=κ u2 M.ram.length c2)(e3:S.get 3=κ u3 M.own.length c3)(e4:S.get 4=κ u4 M.video.length c4):CkW w u0 u1 u2 u3 u4 M.mrom.length M.arom.length M.ram.length M.own.length M.video.length c0 c1 c2 c3 c4 M.s.w M.b.l M.b.a M.b.f M.clock M.mready M.aready M.b.g (w.alloc (.cells (υ M S).toArray t)):=by
 have h:=Bx.new w (υ M S) t (b:=w.heap.size) D;exact⟨stA (aR w) _,h.z,(h.at 30 (S.get 0) D).trans (by rw[c]),(h.at 31 (S.get 1) D).trans (by rw[e1]),(h.at 32 (S.get 2) D).trans (by rw[e2]),(h.at 33 (S.get 3) D).trans (by rw[e3]),(h.at 34 (S.get 4) D).trans (by rw[e4]),h.at 60 _ D,h.at 61 _ D,h.at 62 _ D,h.at 63 _ D,h.at 64 _ D,h.at 72 _ D,h.at 73 _ D,h.at 74 _ D⟩
theorem tP(M:Mach)(S:Sl)(w:u)(b:S.lens M):Δ ω 35 #[ac (υ M S).toArray] w λe w'=>e=μ (J Q M.chk)/\Below w.heap.size w w':=by
 obtain⟨u0,c0,d⟩:=b 0 (by omega);obtain⟨u1,c1,e1⟩:=b 1 (by omega);obtain⟨u2,c2,e2⟩:=b 2 (by omega);obtain⟨u3,c3,e3⟩:=b 3 (by omega);obtain⟨u4,c4,e4⟩:=b 4 (by omega);have f:=hid (CkW.mk0 M S w 41 d e1 e2 e3 e4);obtain⟨v,c⟩:∃ v,M.chk=v:=⟨_,D⟩
 rw[c];have h:=hid c;clear c d e1 e2 e3 e4 b;go_enter func35,ntmps35;go_upto_region 1 with fail
 refine Pl.cutW (CkW w u0 u1 u2 u3 u4 _ _ _ _ _ c0 c1 c2 c3 c4 _ _ _ _ _ _ _ _) f.out ?_;intro ι i;obtain⟨a,z,r0,r1,r2,r3,r4,s,b0,b1,b2,b3,j,k,l⟩:=i;have g:=hid a;clear a f;go_wp2;all_goals
  go_ret;refine⟨?_,by first|exact g.out|exact stA g.out _⟩;have c:=h.out;simp only[Mach.chk,pL,cu] at c;try simp only[mB,ne_eq,bne_eq_false_iff_eq] at *
  refine congrArg (λz=>Ending.returned (J Q z)) ?_;subst c
  repeat' split
  all_goals omega
theorem zxb(a0 a1 a2 a3 a4 a5 h j k a9 a b c e f g:Int)(d:Nat)(w:u):(Op.equalIn (d+2) 66 (ac #[J au a0,J au a1,J au a2,J au a3,J au a4,J au a5,J au h,J au j,J au k,J au a9,J au a,J au b,J au c,J au e,J au f,J au g]) (ac #[J au a0,J au a1,J au a2,J au a3,J au a4,J au a5,J au h,J au j,J au k,J au a9,J au a,J au b,J au c,J au e,J au f,J au g])).run ω w=.ok Γ w:=by
 have u3:=underlying5;have x3:=isAgg5;have z3:=sizeOf5;have l:Tryz.prog.cellsOf 5=1:=by kernel_rfl
 have m:(Tryz.prog.info? 5).isSome=Γ:=by kernel_rfl
 obtain⟨i,hi⟩:=eE.1 m;rw[gY w (d+1) _ _ underlying66 hi,l];simp only[List.range,List.range.loop,Op.eqItems];go_simp
theorem zol(f l:Int)(a0 a1 a2 a3 a4 a5 h i j a9 a b c d e g:Int)(w:u):(fG .eql 68 (ac #[J Q f,J Q l,J au a0,J au a1,J au a2,J au a3,J au a4,J au a5,J au h,J au i,J au j,J au a9,J au a,J au b,J au c,J au d,J au e,J au g]) (ac #[J Q f,J Q l,J au a0,J au a1,J au a2,J au a3,J au a4,J au a5,J au h,J au i,J au j,J au a9,J au a,J au b,J au c,J au d,J au e,J au g])).run ω w=.ok (ν Γ) w:=by
 have u3:=underlying3;have x3:=isAgg3;have z3:=sizeOf3;have m:=isAgg66;have z5:=sizeOf66;have n:=zxb a0 a1 a2 a3 a4 a5 h i j a9 a b c d e g 9997;have k:Tryz.prog.underlying 68=A (.struct (Tryz.prog.fieldsOf 68)):=by kernel_rfl
 have hp:Tryz.prog.stoodInHeld 68=ξ:=by kernel_rfl
 rw[dK,show (10000:Nat)=9999+1 from D,eI w 9999 68 _ _ k hp];simp only[dX,underlying68];go_simp
theorem zom(c a v:Int)(w:u):(fG .eql 104 (ac #[J Q c,J Q a,J au v]) (ac #[J Q c,J Q a,J au v])).run ω w=.ok (ν Γ) w:=by
 have u3:=underlying3;have x3:=isAgg3;have z3:=sizeOf3;have d:=underlying5;have e:=isAgg5;have z5:=sizeOf5;have b:Tryz.prog.underlying 104=A (.struct (Tryz.prog.fieldsOf 104)):=by kernel_rfl
 have hp:Tryz.prog.stoodInHeld 104=ξ:=by kernel_rfl
 rw[dK,show (10000:Nat)=9999+1 from D,eI w 9999 104 _ _ b hp];simp only[dX,underlying104];go_simp
def oU(x:Lin):List π:=J Q x.f :: J Q x.l::bE x.px
def oV(x:Wt):List π:=[J Q x.c,J Q x.a,J au x.v]
theorem zrV(x:Lin)(w:u):(fG .neq 68 (ac (oU x).toArray) (ac (oU x).toArray)).run ω w=.ok (ν ξ) w:=zgz (zol x.f x.l (x.px 0) (x.px 1) (x.px 2) (x.px 3) (x.px 4) (x.px 5) (x.px 6) (x.px 7) (x.px 8) (x.px 9) (x.px 10) (x.px 11) (x.px 12) (x.px 13) (x.px 14) (x.px 15) w)
theorem zon(x:Wt)(w:u):(fG .neq 104 (ac (oV x).toArray) (ac (oV x).toArray)).run ω w=.ok (ν ξ) w:=zgz (zom x.c x.a x.v w)
theorem zoo:∀(l:List Lin) (i:Nat) (x:Lin),l[i]?=A x->∀(j:Nat) (v:π),(oU x)[j]?=A v->(nj l)[i*18+j]?=A v
 | [],i,x,h=>by simp at h
 | y::l,0,x,h=>λj v a=>by
  simp only[bv,aZ] at h;subst h;rw[i8,aX];show (oU y++nj l)[j]?=_;rw[bc (ay.1 a).1];exact a
 | y::l,i+1,x,h=>λj v a=>by
  rw[bN] at h;have:=zoo l i x h j v a;show (oU y++nj l)[(i+1)*18+j]?=_;have b:(oU y).length=18:=by simp[oU,pw]
  rw[aY (by rw[b];omega),b,show (i+1)*18+j-18=i*18+j by omega];exact this
theorem zop:∀(l:List Wt) (i:Nat) (x:Wt),l[i]?=A x->∀(j:Nat) (v:π),(oV x)[j]?=A v->(oC l)[i*3+j]?=A v
 | [],i,x,h=>by simp at h
 | y::l,0,x,h=>λj v a=>by
  simp only[bv,aZ] at h;subst h;rw[i8,aX];show (oV y++oC l)[j]?=_;rw[bc (ay.1 a).1];exact a
 | y::l,i+1,x,h=>λj v a=>by
  rw[bN] at h;have:=zop l i x h j v a;show (oV y++oC l)[(i+1)*3+j]?=_;rw[aY (by simp[oV];omega),show (oV y).length=3 from D,show (i+1)*3+j-3=i*3+j by omega];exact this
theorem zql:(Tryz.prog.info? 68).map (·.size)=A 18:=by kernel_rfl
theorem zqm:(Tryz.prog.info? 104).map (·.size)=A 3:=by kernel_rfl
theorem Lk.sameLn(f v2:π)(l:List Lin)(w:u)(h1:kO w f l.length 18 (nj l))(h2:kO w v2 l.length 18 (nj l))(t:l.length<=1000000):Δ ω 39 #[f,v2] w λe w'=>e=μ (ν Γ)/\Below w.heap.size w w':=by
 obtain⟨a1,k1,e1⟩:=h1.len;obtain⟨a2,k2,e2⟩:=h2.len;subst e1 e2;have m:=hid h1;have n:=hid h2;clear h1 h2;go_enter func39,ntmps39;go_wp2;go_loopw [13] (λi wr=>∃ j:Nat,j<=l.length/\i=J Q j/\Below w.heap.size w wr) (λi _=>l.length-(intOf i).toNat)
 case atStart=>exact⟨0,bh _,D,aR w⟩
 case round =>
  obtain⟨j,v,rfl,hb⟩:=hrel;have g:=hid hb;by_cases b:j<l.length
  ·have h:(j:Int)<l.length:=by omega
   have o:(0:Int)<=j:=by omega
   have p:(j:Int)<1000000:=by omega
   obtain⟨x,d⟩:∃ x,l[j]?=A x:=⟨_,aq b⟩
   obtain⟨g1,o1,c1,q1,y,r1⟩:=(m.out.kept hb).range b (zoo l j x d);obtain⟨k,o2,c2,q,z2,r2⟩:=(n.out.kept hb).range b (zoo l j x d);cases q1;cases q;have r:=zrV x;clear hb d;go_upto_region 6 with fail
   refine wp_region_held_drew (S:=λw'=>w'.rangeAt g1 (o1+j*18) (oU x)/\w'.rangeAt k (o2+j*18) (oU x)) (by kernel_rfl) ⟨r1,r2⟩ ?_;intro a;refine dy 0 ⟨A 16,_,_,_,_,G⟩ a ?_;simp only[ag,xA,xB,xC];refine dy 1 ⟨A 17,_,_,_,_,G⟩ a ?_;simp only[ag,xA,xB,xC];refine dy 2 ⟨A 18,_,_,_,_,G⟩ a ?_;simp only[ag,xA,xB,xC];refine jW 3 (ac (oU x).toArray) D (λw' c=>ml 68 _ D g1 (o1+j*18) D (oU x) _ c.1 underlying68 D zql) a ?_;refine dy 4 ⟨A 20,_,_,_,_,G⟩ a ?_;simp only[ag,xA,xB,xC];refine dy 5 ⟨A 21,_,_,_,_,G⟩ a ?_;simp only[ag,xA,xB,xC];refine dy 6 ⟨A 22,_,_,_,_,G⟩ a ?_;simp only[ag,xA,xB,xC];refine jW 7 (ac (oU x).toArray) D (λw' c=>ml 68 _ D k (o2+j*18) D (oU x) _ c.2 underlying68 D zql) a ?_;refine dy 8 ⟨A 24,_,_,_,_,G⟩ a ?_;simp only[ag,xA,xB,xC];refine wpAnyH_done (by kernel_rfl) ?_ _;clear a r1 r2;go_wp2;exact⟨⟨j+1,by omega,by simp,g.out.drew⟩,by simp[intOf];omega⟩
  ·have s:¬ (j:Int)<l.length:=by omega
   clear hb;go_wp2;go_ret;exact⟨D,g.out⟩
theorem Lk.sameWr(f v2:π)(l:List Wt)(w:u)(h1:kO w f l.length 3 (oC l))(h2:kO w v2 l.length 3 (oC l))(t:l.length<=1000000):Δ ω 40 #[f,v2] w λe w'=>e=μ (ν Γ)/\Below w.heap.size w w':=by
 obtain⟨a1,k1,e1⟩:=h1.len;obtain⟨a2,k2,e2⟩:=h2.len;subst e1 e2;have m:=hid h1;have n:=hid h2;clear h1 h2;go_enter func40,ntmps40;go_wp2;go_loopw [13] (λi wr=>∃ j:Nat,j<=l.length/\i=J Q j/\Below w.heap.size w wr) (λi _=>l.length-(intOf i).toNat)
 case atStart=>exact⟨0,bh _,D,aR w⟩
 case round =>
  obtain⟨j,v,rfl,hb⟩:=hrel;have g:=hid hb;by_cases b:j<l.length
  ·have h:(j:Int)<l.length:=by omega
   have o:(0:Int)<=j:=by omega
   have p:(j:Int)<1000000:=by omega
   obtain⟨x,d⟩:∃ x,l[j]?=A x:=⟨_,aq b⟩
   obtain⟨g1,o1,c1,q1,y,r1⟩:=(m.out.kept hb).range b (zop l j x d);obtain⟨k,o2,c2,q,z2,r2⟩:=(n.out.kept hb).range b (zop l j x d);cases q1;cases q;have r:=zon x;clear hb d;go_upto_region 6 with fail
   refine wp_region_held_drew (S:=λw'=>w'.rangeAt g1 (o1+j*3) (oV x)/\w'.rangeAt k (o2+j*3) (oV x)) (by kernel_rfl) ⟨r1,r2⟩ ?_;intro a;refine dy 0 ⟨A 16,_,_,_,_,G⟩ a ?_;simp only[ag,xA,xB,xC];refine dy 1 ⟨A 17,_,_,_,_,G⟩ a ?_;simp only[ag,xA,xB,xC];refine dy 2 ⟨A 18,_,_,_,_,G⟩ a ?_;simp only[ag,xA,xB,xC];refine jW 3 (ac (oV x).toArray) D (λw' c=>ml 104 _ D g1 (o1+j*3) D (oV x) _ c.1 underlying104 D zqm) a ?_;refine dy 4 ⟨A 20,_,_,_,_,G⟩ a ?_;simp only[ag,xA,xB,xC];refine dy 5 ⟨A 21,_,_,_,_,G⟩ a ?_;simp only[ag,xA,xB,xC];refine dy 6 ⟨A 22,_,_,_,_,G⟩ a ?_;simp only[ag,xA,xB,xC];refine jW 7 (ac (oV x).toArray) D (λw' c=>ml 104 _ D k (o2+j*3) D (oV x) _ c.2 underlying104 D zqm) a ?_;refine dy 8 ⟨A 24,_,_,_,_,G⟩ a ?_;simp only[ag,xA,xB,xC];refine wpAnyH_done (by kernel_rfl) ?_ _;clear a r1 r2;go_wp2;exact⟨⟨j+1,by omega,by simp,g.out.drew⟩,by simp[intOf];omega⟩
  ·have s:¬ (j:Int)<l.length:=by omega
   clear hb;go_wp2;go_ret;exact⟨D,g.out⟩
structure ShAt (w : u) (v1 v2 v3 : π) (ln : List Lin) (sm : List UInt8) (ws : List Wt) : Prop where
 ln:kO w v1 ln.length 18 (nj ln)
 sm:sliceAt w v2 sm
 ws:kO w v3 ws.length 3 (oC ws)
theorem ShAt.kept{w w1:u}{a v2 v3:π}{ln:List Lin}{sm:List UInt8}{ws:List Wt}(h:ShAt w a v2 v3 ln sm ws)(hb:Below w.heap.size w w1):ShAt w1 a v2 v3 ln sm ws:=⟨h.ln.kept hb,h.sm.kept hb,h.ws.kept hb⟩
theorem Lk.sameShown(i v2 v3 u1 u2 u3:π)(ln:List Lin)(sm:List UInt8)(ws:List Wt)(w:u)(h:ShAt w i v2 v3 ln sm ws)(k:ShAt w u1 u2 u3 ln sm ws)(h1:ln.length<=1000000)(h3:ws.length<=1000000):Δ ω 14 #[ac #[i,v2,v3],ac #[u1,u2,u3]] w λe w'=>e=μ (ν Γ)/\Below w.heap.size w w':=by
 obtain⟨a1,k1,e1⟩:=h.ln.len;obtain⟨a2,k2,e2⟩:=tV h.sm;obtain⟨a3,j,e3⟩:=h.ws.len;obtain⟨b1,m1,f1⟩:=k.ln.len;obtain⟨b2,l,f2⟩:=tV k.sm;obtain⟨b3,m,f3⟩:=k.ws.len;subst e1 e2 e3 f1 f2 f3;have H:=hid h;have K:=hid k;have c:=hid h1;have d:=hid h3;clear h k h1 h3;go_enter func14,ntmps14;go_wp2_with (first
  | (go_at_call 39;refine(Lk.sameLn _ _ ln _ (H.out.kept (stA (stA (aR w) _) _)).ln (K.out.kept (stA (stA (aR w) _) _)).ln c.out).mono ?_;rintro e w1 ⟨rfl,b⟩;have a:=hid (bw (stA (stA (aR w) (.cells #[κ a1 ln.length k1,κ a2 sm.length k2,κ a3 ws.length j] 47)) (.cells #[κ b1 ln.length m1,κ b2 sm.length l,κ b3 ws.length m] 47)) b);obtain⟨n,o⟩:=cj b;have p:w.heap.size+1<w1.heap.size:=by have:=b.size;simp at this;omega)
  | (go_at_call 38;refine(zlo _ _ sm sm _ (H.out.kept a.out).sm (K.out.kept a.out).sm).mono ?_;rw[o9];rintro e w2 ⟨rfl,rfl⟩)
  | (go_at_call 40;refine(Lk.sameWr _ _ ws _ (H.out.kept a.out).ws (K.out.kept a.out).ws d.out).mono ?_;rintro e q ⟨rfl,f⟩;have g:=hid (bw a.out f)))
 go_ret;exact⟨D,g.out⟩
theorem CG{s:List π}(h:s.length=2):∃ c0 c1,s=[c0,c1]:=by
 match s,h with
 | [c0,c1],_=>exact⟨c0,c1,D⟩
theorem xU{s:List π}(h:s.length=4):∃ c0 c1 c2 c3,s=[c0,c1,c2,c3]:=by
 match s,h with
 | [c0,c1,c2,c3],_=>exact⟨c0,c1,c2,c3,D⟩
theorem CH{s:List π}(h:s.length=6):∃ c0 c1 c2 c3 c4 c5,s=[c0,c1,c2,c3,c4,c5]:=by
 match s,h with
 | [c0,c1,c2,c3,c4,c5],_=>exact⟨c0,c1,c2,c3,c4,c5,D⟩
theorem yT{s:List π}(h:s.length=15):∃ c0 c1 c2 c3 c4 c5 f g i c9 a b c d e,s=[c0,c1,c2,c3,c4,c5,f,g,i,c9,a,b,c,d,e]:=by
 match s,h with
 | [c0,c1,c2,c3,c4,c5,f,g,i,c9,a,b,c,d,e],_=>exact⟨c0,c1,c2,c3,c4,c5,f,g,i,c9,a,b,c,d,e,D⟩
theorem yU{s:List π}(h:s.length=16):∃ c0 c1 c2 c3 c4 c5 g i j c9 a b c d e f,s=[c0,c1,c2,c3,c4,c5,g,i,j,c9,a,b,c,d,e,f]:=by
 match s,h with
 | [c0,c1,c2,c3,c4,c5,g,i,j,c9,a,b,c,d,e,f],_=>exact⟨c0,c1,c2,c3,c4,c5,g,i,j,c9,a,b,c,d,e,f,D⟩
section
variable {H : Type} {enc : aJ × π -> H} {w : u} {base : Nat} {spare : Nat -> Bool} {held : Bool} {n : Nat} {x : fF H × List dZ} {s : List π}
theorem zuI(h:dh enc ω w base spare held n 25 s=A x)(E:s.length=15):∃ c:C.Cpu,s=bY c/\c.ok:=by
 have a:Tryz.prog.cellsOf 22=1:=by kernel_rfl
 have hB:Tryz.prog.cellsOf 4=1:=by kernel_rfl
 have T:Tryz.prog.cellsOf 5=1:=by kernel_rfl
 have U:Tryz.prog.cellsOf 3=1:=by kernel_rfl
 have e:Tryz.prog.cellsOf 23=8:=by kernel_rfl
 obtain⟨c0,c1,c2,c3,c4,c5,r,t,y,c9,f,g,i,j,l,rfl⟩:=yT E;obtain⟨xs,m,_,_,_,p,b⟩:=eh underlying25 h;have F:xs.length=8:=p;have g0:dh enc ω w base spare held m 23 (([c0,c1,c2,c3,c4,c5,r,t,y,c9,f,g,i,j,l].drop 0).take (Tryz.prog.cellsOf 23))=xs[0]?:=b 0 _ D;rw[aq (by omega)] at g0;obtain⟨ys,k,_,_,_,H,d⟩:=ki underlying23 g0;obtain⟨a0,rfl,w0⟩:=oo (o:=0*Tryz.prog.cellsOf 22) (v:=c0) (d 0 (by omega)) (by omega) a underlying22 (by rw[a,e];rfl);obtain⟨a1,rfl,w1⟩:=oo (o:=1*Tryz.prog.cellsOf 22) (v:=c1) (d 1 (by omega)) (by omega) a underlying22 (by rw[a,e];rfl);obtain⟨a2,rfl,w2⟩:=oo (o:=2*Tryz.prog.cellsOf 22) (v:=c2) (d 2 (by omega)) (by omega) a underlying22 (by rw[a,e];rfl);obtain⟨a3,rfl,I⟩:=oo (o:=3*Tryz.prog.cellsOf 22) (v:=c3) (d 3 (by omega)) (by omega) a underlying22 (by rw[a,e];rfl);obtain⟨a4,rfl,w4⟩:=oo (o:=4*Tryz.prog.cellsOf 22) (v:=c4) (d 4 (by omega)) (by omega) a underlying22 (by rw[a,e];rfl)
 obtain⟨a5,rfl,L⟩:=oo (o:=5*Tryz.prog.cellsOf 22) (v:=c5) (d 5 (by omega)) (by omega) a underlying22 (by rw[a,e];rfl);obtain⟨M,rfl,N⟩:=oo (o:=6*Tryz.prog.cellsOf 22) (v:=r) (d 6 (by omega)) (by omega) a underlying22 (by rw[a,e];rfl);obtain⟨P,rfl,w7⟩:=oo (o:=7*Tryz.prog.cellsOf 22) (v:=t) (d 7 (by omega)) (by omega) a underlying22 (by rw[a,e];rfl);obtain⟨R,rfl,q⟩:=oo (ty:=22) (o:=8) (v:=y) (b 1 _ D) (by omega) a underlying22 D;obtain⟨b0,rfl⟩:=sF (ty:=4) (o:=9) (v:=c9) (b 2 _ D) (by omega) hB underlying4 D;obtain⟨b1,rfl⟩:=sF (ty:=4) (o:=10) (v:=f) (b 3 _ D) (by omega) hB underlying4 D;obtain⟨b2,rfl⟩:=sF (ty:=4) (o:=11) (v:=g) (b 4 _ D) (by omega) hB underlying4 D;obtain⟨b3,rfl⟩:=sF (ty:=4) (o:=12) (v:=i) (b 5 _ D) (by omega) hB underlying4 D;obtain⟨b4,rfl⟩:=sF (ty:=4) (o:=13) (v:=j) (b 6 _ D) (by omega) hB underlying4 D;obtain⟨b5,rfl⟩:=sF (ty:=4) (o:=14) (v:=l) (b 7 _ D) (by omega) hB underlying4 D
 refine⟨⟨[a0,a1,a2,a3,a4,a5,M,P],R,b0,b1,b2,b3,b4,b5⟩,D,D,λz B=>?_,(ee q).1,(ee q).2⟩;simp only[bp,cz,gC] at B;rcases B with rfl|rfl|rfl|rfl|rfl|rfl|rfl|rfl
 ·exact ee w0
 ·exact ee w1
 ·exact ee w2
 ·exact ee I
 ·exact ee w4
 ·exact ee L
 ·exact ee N
 ·exact ee w7
theorem zuJ(h:dh enc ω w base spare held n 28 s=A x)(g:s.length=3):∃ p:Pd,s=[.int au p.d,.bool p.l,.int au p.s]/\p.ok:=by
 have i:Tryz.prog.cellsOf 22=1:=by kernel_rfl
 have hB:Tryz.prog.cellsOf 4=1:=by kernel_rfl
 have f:Tryz.prog.cellsOf 5=1:=by kernel_rfl
 have j:Tryz.prog.cellsOf 3=1:=by kernel_rfl
 obtain⟨c0,c1,c2,rfl⟩:=xT g;obtain⟨xs,m,_,_,_,b,a⟩:=eh underlying28 h;have k:xs.length=3:=b;obtain⟨a0,rfl,c⟩:=oo (ty:=5) (o:=0) (v:=c0) (a 0 _ D) (by omega) f underlying5 D;obtain⟨b1,rfl⟩:=sF (ty:=4) (o:=1) (v:=c1) (a 1 _ D) (by omega) hB underlying4 D;obtain⟨a2,rfl,e⟩:=oo (ty:=5) (o:=2) (v:=c2) (a 2 _ D) (by omega) f underlying5 D;exact⟨⟨a0,b1,a2⟩,D,kV c,kV e⟩
theorem zxc(h:dh enc ω w base spare held n 29 s=A x)(e:s.length=6):∃ p q:Pd,s=[.int au p.d,.bool p.l,.int au p.s,.int au q.d,.bool q.l,.int au q.s]/\p.ok/\q.ok:=by
 have f:Tryz.prog.cellsOf 28=3:=by kernel_rfl
 obtain⟨c0,c1,c2,c3,c4,c5,rfl⟩:=CH e;obtain⟨ys,m,_,_,_,g,a⟩:=ki underlying29 h;have b:=a 0 (by omega);have c:=a 1 (by omega);rw[f,aq (by omega)] at b c;obtain⟨p,ep,hp⟩:=zuJ (s:=[c0,c1,c2]) b D;obtain⟨q,eq,i⟩:=zuJ (s:=[c3,c4,c5]) c D;simp only[eF,and_true] at ep eq;obtain⟨rfl,rfl,rfl⟩:=ep;obtain⟨rfl,rfl,rfl⟩:=eq;exact⟨p,q,D,hp,i⟩
theorem zuK(h:dh enc ω w base spare held n 31 s=A x)(i:s.length=4):∃ t:TM,s=[.int .u16 t.r,.int .u16 t.c,.bool t.on,.bool t.g]/\je t.r/\je t.c:=by
 have f:Tryz.prog.cellsOf 22=1:=by kernel_rfl
 have hB:Tryz.prog.cellsOf 4=1:=by kernel_rfl
 have j:Tryz.prog.cellsOf 5=1:=by kernel_rfl
 have k:Tryz.prog.cellsOf 3=1:=by kernel_rfl
 obtain⟨c0,c1,c2,c3,rfl⟩:=xU i;obtain⟨xs,m,_,_,_,b,a⟩:=eh underlying31 h;have l:xs.length=4:=b;obtain⟨a0,rfl,d⟩:=oo (ty:=22) (o:=0) (v:=c0) (a 0 _ D) (by omega) f underlying22 D;obtain⟨a1,rfl,e⟩:=oo (ty:=22) (o:=1) (v:=c1) (a 1 _ D) (by omega) f underlying22 D;obtain⟨b2,rfl⟩:=sF (ty:=4) (o:=2) (v:=c2) (a 2 _ D) (by omega) hB underlying4 D;obtain⟨b3,rfl⟩:=sF (ty:=4) (o:=3) (v:=c3) (a 3 _ D) (by omega) hB underlying4 D;exact⟨⟨a0,a1,b2,b3⟩,D,ee d,ee e⟩
theorem zxd(h:dh enc ω w base spare held n 38 s=A x)(i:s.length=4):∃ b:Bem,s=[.int Q b.l,.int Q b.a,.bool b.g,.int Q b.f]:=by
 have q:Tryz.prog.cellsOf 22=1:=by kernel_rfl
 have hB:Tryz.prog.cellsOf 4=1:=by kernel_rfl
 have r:Tryz.prog.cellsOf 5=1:=by kernel_rfl
 have e:Tryz.prog.cellsOf 3=1:=by kernel_rfl
 obtain⟨c0,c1,c2,c3,rfl⟩:=xU i;obtain⟨xs,m,_,_,_,d,c⟩:=eh underlying38 h;have t:xs.length=4:=d;obtain⟨a0,rfl,j⟩:=oo (ty:=3) (o:=0) (v:=c0) (c 0 _ D) (by omega) e underlying3 D;obtain⟨a1,rfl,k⟩:=oo (ty:=3) (o:=1) (v:=c1) (c 1 _ D) (by omega) e underlying3 D;obtain⟨b2,rfl⟩:=sF (ty:=4) (o:=2) (v:=c2) (c 2 _ D) (by omega) hB underlying4 D;obtain⟨a3,rfl,p⟩:=oo (ty:=3) (o:=3) (v:=c3) (c 3 _ D) (by omega) e underlying3 D;exact⟨⟨a0,a1,b2,a3⟩,D⟩
theorem zxe(h:dh enc ω w base spare held n 39 s=A x)(e:s.length=2):∃ a b:Int,s=[.int au a,.int au b]/\bd8 a/\bd8 b:=by
 have g:Tryz.prog.cellsOf 22=1:=by kernel_rfl
 have hB:Tryz.prog.cellsOf 4=1:=by kernel_rfl
 have d:Tryz.prog.cellsOf 5=1:=by kernel_rfl
 have i:Tryz.prog.cellsOf 3=1:=by kernel_rfl
 obtain⟨c0,c1,rfl⟩:=CG e;obtain⟨ys,k,_,_,_,f,c⟩:=ki underlying39 h;obtain⟨a0,rfl,w0⟩:=oo (o:=0*Tryz.prog.cellsOf 5) (v:=c0) (c 0 (by omega)) (by omega) d underlying5 (by rw[d];rfl);obtain⟨a1,rfl,w1⟩:=oo (o:=1*Tryz.prog.cellsOf 5) (v:=c1) (c 1 (by omega)) (by omega) d underlying5 (by rw[d];rfl);exact⟨a0,a1,D,kV w0,kV w1⟩
theorem zuL(h:dh enc ω w base spare held n 36 s=A x)(H:s.length=16):∃ d:Sd,s=dq d/\d.ok:=by
 have X:Tryz.prog.cellsOf 22=1:=by kernel_rfl
 have hB:Tryz.prog.cellsOf 4=1:=by kernel_rfl
 have Z:Tryz.prog.cellsOf 5=1:=by kernel_rfl
 have I:Tryz.prog.cellsOf 3=1:=by kernel_rfl
 have L:Tryz.prog.cellsOf 33=5:=by kernel_rfl
 have M:Tryz.prog.cellsOf 34=15:=by kernel_rfl
 obtain⟨c0,c1,c2,c3,c4,c5,q,r,t,c9,b,c,e,f,g,i,rfl⟩:=yU H;obtain⟨xs,k,_,_,_,j,l⟩:=eh underlying36 h;have N:xs.length=2:=j;have g0:dh enc ω w base spare held k 34 (([c0,c1,c2,c3,c4,c5,q,r,t,c9,b,c,e,f,g,i].drop 0).take (Tryz.prog.cellsOf 34))=xs[0]?:=l 0 _ D;rw[aq (by omega),M] at g0;obtain⟨ys,m,_,_,_,P,a⟩:=ki zd0 g0;have y:=a 0 (by omega);have z:=a 1 (by omega);have B:=a 2 (by omega);rw[L,aq (by omega)] at y z B;obtain⟨R,E,T⟩:=zff (c0:=c0) (c1:=c1) (c2:=c2) (c3:=c3) (c4:=c4) y;obtain⟨U,eb,hb⟩:=zff (c0:=c5) (c1:=q) (c2:=r) (c3:=t) (c4:=c9) z;obtain⟨V,F,hc⟩:=zff (c0:=b) (c1:=c) (c2:=e) (c3:=f) (c4:=g) B;obtain⟨p,rfl,W⟩:=oo (ty:=3) (o:=15) (v:=i) (l 1 _ D) (by omega) I underlying3 D;simp only[eF,and_true] at E eb F;obtain⟨rfl,rfl,rfl,rfl,rfl⟩:=E;obtain⟨rfl,rfl,rfl,rfl,rfl⟩:=eb;obtain⟨rfl,rfl,rfl,rfl,rfl⟩:=F;exact⟨⟨R,U,V,p⟩,D,⟨T,hb,hc⟩⟩
end
theorem tQ{H:Type}{enc:aJ × π->H}{P:Program}{w:u}{base:Nat}{spare:Nat->Bool}{held:Bool}{n i o k:Nat}{ty:aJ}{cs:List π}{xs:List (fF H × List dZ)}
 (h:dh enc P w base spare held n ty ((cs.drop o).take (P.cellsOf ty))=xs[i]?) (hi:i<xs.length:=by omega) (hc:P.cellsOf ty=k:=by kernel_rfl):∃ y,dh enc P w base spare held n ty ((cs.drop o).take k)=A y:=by
 rw[hc,aq hi] at h;exact⟨_,h⟩
theorem qQ{l R:List π}{n k m:Nat}(a:n+k=m)(h:l.drop m=R):l.drop n=(l.drop n).take k++R:=by
 subst a;rw[<- h,<- fJ];exact(mY k _).symm
theorem zuM{l:List π}{n k:Nat}(h:l.length<=n+k):l.drop n=(l.drop n).take k:=(dY (by rw[cW];omega)).symm
theorem s7{cs:List π}(o:Nat)(h:o<cs.length:=by omega):∃ v,cs[o]?=A v/\(cs.drop o).take 1=[v]:=⟨cs[o],aq h,by rw[og,mV,aq h];rfl⟩
theorem zeP{H:Type}{enc:aJ × π->H}{W:u}{base:Nat}{v:π}{d:fF H}{p:List dZ}(hv:Value.okWide ω W .any base 41 v)(h:dm enc ω W 0 (λ_=>Γ) Γ 41 v d p):∃(M:Mach) (S:Sl),v=ac (υ M S).toArray/\M.ok/\cf W S M /\ ∀ j,j<5->(M.byt j).length<=maxLen:=by
 have hU:Tryz.prog.cellsOf 22=1:=by kernel_rfl
 have hB:Tryz.prog.cellsOf 4=1:=by kernel_rfl
 have hE:Tryz.prog.cellsOf 5=1:=by kernel_rfl
 have e:Tryz.prog.cellsOf 3=1:=by kernel_rfl
 have hM:Tryz.prog.cellsOf 41=75:=by kernel_rfl
 obtain⟨cs,rfl,f⟩:=okWide_struct underlying41 hv;obtain⟨l⟩:=cs;have b:l.length=75:=f.trans hM;obtain⟨fuel,g⟩:=h;have hf:dh enc ω W 0 (λ_=>Γ) Γ fuel 41 l=A (d,p):=g;obtain⟨xs,m,_,_,_,c,a⟩:=eh underlying41 hf;have hx:xs.length=20:=c;obtain⟨y0,g0⟩:=tQ (ty:=25) (o:=0) (k:=15) (a 0 _ D);obtain⟨m0,e0,k0⟩:=zuI g0 (by simp[b]);obtain⟨y1,g1⟩:=tQ (ty:=25) (o:=15) (k:=15) (a 1 _ D);obtain⟨m1,e1,k1⟩:=zuI g1 (by simp[b]);obtain⟨u2,r2,e2⟩:=s7 (cs:=l) 30;obtain⟨y2,g2⟩:=tQ (ty:=26) (o:=30) (k:=1) (a 2 _ D);rw[e2] at g2;obtain⟨m2,k2,q2⟩:=yu g2;obtain⟨u3,r3,e3⟩:=s7 (cs:=l) 31;obtain⟨y3,g3⟩:=tQ (ty:=26) (o:=31) (k:=1) (a 3 _ D);rw[e3] at g3;obtain⟨m3,k3,q3⟩:=yu g3;obtain⟨u4,r4,e4⟩:=s7 (cs:=l) 32;obtain⟨y4,g4⟩:=tQ (ty:=26) (o:=32) (k:=1) (a 4 _ D);rw[e4] at g4;obtain⟨m4,k4,q4⟩:=yu g4;obtain⟨u5,r5,e5⟩:=s7 (cs:=l) 33;obtain⟨y5,g5⟩:=tQ (ty:=26) (o:=33) (k:=1) (a 5 _ D);rw[e5] at g5;obtain⟨m5,k5,q5⟩:=yu g5;obtain⟨u6,r6,e6⟩:=s7 (cs:=l) 34
 obtain⟨y6,g6⟩:=tQ (ty:=26) (o:=34) (k:=1) (a 6 _ D);rw[e6] at g6;obtain⟨m6,k6,q6⟩:=yu g6;obtain⟨y7,g7⟩:=tQ (ty:=29) (o:=35) (k:=6) (a 7 _ D);obtain⟨m7,n7,e7,k7,q7⟩:=zxc g7 (by simp[b]);obtain⟨y8,g8⟩:=tQ (ty:=31) (o:=41) (k:=4) (a 8 _ D);obtain⟨m8,e8,k8,q8⟩:=zuK g8 (by simp[b]);obtain⟨y9,g9⟩:=tQ (ty:=36) (o:=45) (k:=16) (a 9 _ D);obtain⟨m9,e9,k9⟩:=zuL g9 (by simp[b]);obtain⟨y10,i⟩:=tQ (ty:=38) (o:=61) (k:=4) (a 10 _ D);obtain⟨q,r⟩:=zxd i (by simp[b]);obtain⟨u11,s,t⟩:=s7 (cs:=l) 65;obtain⟨w,rfl,x⟩:=oo (ty:=22) (o:=65) (a 11 _ D) (by omega) hU underlying22 s;obtain⟨u12,y,z⟩:=s7 (cs:=l) 66;obtain⟨B,rfl,E⟩:=oo (ty:=22) (o:=66) (a 12 _ D) (by omega) hU underlying22 y;obtain⟨u13,F,I⟩:=s7 (cs:=l) 67;obtain⟨L,rfl⟩:=sF (ty:=4) (o:=67) (a 13 _ D) (by omega) hB underlying4 F;obtain⟨u14,N,P⟩:=s7 (cs:=l) 68;obtain⟨R,rfl⟩:=sF (ty:=4) (o:=68) (a 14 _ D) (by omega) hB underlying4 N;obtain⟨y15,g15⟩:=tQ (ty:=39) (o:=69) (k:=2) (a 15 _ D)
 obtain⟨m15,T,U,V,X⟩:=zxe g15 (by simp[b]);obtain⟨u16,Z,e16⟩:=s7 (cs:=l) 71;obtain⟨m16,rfl⟩:=sF (ty:=4) (o:=71) (a 16 _ D) (by omega) hB underlying4 Z;obtain⟨u17,r17,e17⟩:=s7 (cs:=l) 72;obtain⟨m17,rfl,w17⟩:=oo (ty:=3) (o:=72) (a 17 _ D) (by omega) e underlying3 r17;obtain⟨u18,r18,e18⟩:=s7 (cs:=l) 73;obtain⟨m18,rfl,w18⟩:=oo (ty:=3) (o:=73) (a 18 _ D) (by omega) e underlying3 r18;obtain⟨u19,r19,e19⟩:=s7 (cs:=l) 74;obtain⟨m19,rfl,w19⟩:=oo (ty:=3) (o:=74) (a 19 _ D) (by omega) e underlying3 r19;have hL:l=(l.drop 0).take 15++((l.drop 15).take 15++((l.drop 30).take 1++((l.drop 31).take 1++((l.drop 32).take 1++((l.drop 33).take 1++((l.drop 34).take 1++((l.drop 35).take 6++((l.drop 41).take 4++((l.drop 45).take 16++((l.drop 61).take 4++((l.drop 65).take 1++((l.drop 66).take 1++((l.drop 67).take 1++((l.drop 68).take 1++((l.drop 69).take 2++((l.drop 71).take 1++((l.drop 72).take 1++((l.drop 73).take 1++((l.drop 74).take 1))))))))))))))))))) :=
  List.drop_zero.symm.trans (qQ (n:=0) (m:=15) D (qQ (n:=15) (m:=30) D (qQ (n:=30) (m:=31) D (qQ (n:=31) (m:=32) D (qQ (n:=32) (m:=33) D (qQ (n:=33) (m:=34) D (qQ (n:=34) (m:=35) D (qQ (n:=35) (m:=41) D (qQ (n:=41) (m:=45) D (qQ (n:=45) (m:=61) D (qQ (n:=61) (m:=65) D (qQ (n:=65) (m:=66) D (qQ (n:=66) (m:=67) D (qQ (n:=67) (m:=68) D (qQ (n:=68) (m:=69) D (qQ (n:=69) (m:=71) D (qQ (n:=71) (m:=72) D (qQ (n:=72) (m:=73) D (qQ (n:=73) (m:=74) D (zuM (by omega)))))))))))))))))))))
 rw[e0,e1,e2,e3,e4,e5,e6,e7,e8,e9,r,t,z,I,P,U,e16,e17,e18,e19] at hL;refine⟨⟨m0,m1,m2,m3,m4,m5,m6,m7,n7,m8,m9,q,w,B,L,R,m15,T,m16,m17,m18,m19⟩,⟨u2,u3,u4,u5,u6⟩,by rw[hL];rfl,⟨k0,k1,k7,q7,k8,q8,k9,ee x,ee E,V,X⟩,λj hj=>?_,λj hj=>?_⟩
 ·rcases five hj with rfl|rfl|rfl|rfl|rfl
  ·exact k2
  ·exact k3
  ·exact k4
  ·exact k5
  ·exact k6
 ·rcases five hj with rfl|rfl|rfl|rfl|rfl
  ·exact q2
  ·exact q3
  ·exact q4
  ·exact q5
  ·exact q6
theorem zzM{H:Type}{enc:aJ × π->H}{W:u}{v:π}{x:fF H × List dZ}{fuel:Nat}(f:dh enc ω W 0 (λ_=>Γ) Γ fuel 26 [v]=A x)(g:∀ n∈x.1.weights ω 26,n<=iS):∃ a k c,v=.slice a k c/\k<=iS:=by
 have c1:Tryz.prog.cellsOf 5=1:=by kernel_rfl
 have b1:Tryz.prog.bytesOf 5=1:=by kernel_rfl
 rcases open_ints underlying26 underlying5 c1 f with⟨hc,_⟩|⟨h,b,d,zs,hc,_,i,o,j,l,e,m⟩
 ·exact⟨G,0,0,by simpa using hc,bh _⟩
 ·refine⟨A h,b,d,by simpa using hc,?_⟩
  simp only[fO] at j;have:=g (((lits (H:=H) au (zs.take b)).length+(lits (H:=H) au (zs.drop b)).length)*Tryz.prog.bytesOf 5) (by rw[l];simp[qu,underlying26]);simp only[lits,bf,b1,bD,cW] at this;omega
theorem zeQ{H:Type}{enc:aJ × π->H}{W:u}{M:Mach}{S:Sl}{d:fF H}{p:List dZ}(h:dm enc ω W 0 (λ_=>Γ) Γ 41 (.agg (υ M S).toArray) d p)(E:∀ n∈d.weights ω 41,n<=iS)(F:S.lens M):∀ j,j<5->(M.byt j).length<=140737488355328:=by
 obtain⟨fuel,s⟩:=h;have I:dh enc ω W 0 (λ_=>Γ) Γ fuel 41 (υ M S)=A (d,p):=s;obtain⟨xs,m,_,z,_,o,b⟩:=eh underlying41 I;have P:xs.length=20:=o;simp only[gv] at z;have L:Tryz.prog.cellsOf 26=1:=by kernel_rfl
 have R:=reachBytes_lt;have key:∀(j:Nat) (i:Nat) (hi:i<20),(dh enc ω W 0 (λ_=>Γ) Γ m 26 (((υ M S).drop (30+j)).take (Tryz.prog.cellsOf 26))=xs[i]?)->(∀(y:fF H × List dZ),xs[i]?=A y->∀ n∈y.1.weights ω 26,n∈d.weights ω 41)->j<5->(M.byt j).length<=140737488355328:=λj i hi g q l=>by
  have v:=zjO M S j l;have N:((υ M S).drop (30+j)).take 1=[S.get j]:=by rw[og,mV,v];rfl
  rw[L,N,aq (by omega)] at g;obtain⟨a,k,c,e,T⟩:=zzM g (λn w=>E n (q _ (aq (by omega)) n w));obtain⟨U,V,B⟩:=F j l;rw[e] at B;simp only[iQ] at B;omega
 have r:∀(i:Nat) (y:fF H × List dZ),xs[i]?=A y->(i=2 \/ i=3 \/ i=4 \/ i=5 \/ i=6)->∀ n∈y.1.weights ω 26,n∈d.weights ω 41:=λi y f hi n w=>by
  rw[z.1];simp only[qu,underlying41];have x:(xs.map (·.1))[i]?=A y.1:=by rw[bn,f];rfl
  rcases hi with rfl|rfl|rfl|rfl|rfl
  all_goals exact DataW.weights_mem_each (t:=26) D x n w
 intro j l;rcases five l with rfl|rfl|rfl|rfl|rfl
 ·exact key 0 2 (by omega) (b 2 _ D) (λy f=>r 2 y f (by omega)) l
 ·exact key 1 3 (by omega) (b 3 _ D) (λy f=>r 3 y f (by omega)) l
 ·exact key 2 4 (by omega) (b 4 _ D) (λy f=>r 4 y f (by omega)) l
 ·exact key 3 5 (by omega) (b 5 _ D) (λy f=>r 5 y f (by omega)) l
 ·exact key 4 6 (by omega) (b 6 _ D) (λy f=>r 6 y f (by omega)) l
end Go.Proofs.YthghjlinhokimaaGreatDoor
