/-
  Parts of a proof, joined.
-/
import Derived.Test.YthghjlinhokimaaGreatDoorZcA
import Derived.Test.YthghjlinhokimaaGreatDoorZcLockRun02
set_option linter.all false
set_option maxRecDepth 100000
set_option maxHeartbeats 6400000
namespace Go.Proofs.YthghjlinhokimaaGreatDoor
open Go.ChangeShapes Go.WideShapes Go.ChangeAt Go.RowKit Go.Proofs.Tryz
structure CkW (w : World) (u0 u1 u2 u3 u4 : Option Addr) (n0 n1 n2 n3 n4 c0 c1 c2 c3 c4 : Nat) (x l a f k m q : Int) (g : Bool) (Y : World) : Prop where
 low:Below w.heap.size w Y
 z:w.heap.size<Y.heap.size
 r0:Y.cell? ⟨w.heap.size,30,none⟩=some (.slice u0 n0 c0)
 r1:Y.cell? ⟨w.heap.size,31,none⟩=some (.slice u1 n1 c1)
 r2:Y.cell? ⟨w.heap.size,32,none⟩=some (.slice u2 n2 c2)
 r3:Y.cell? ⟨w.heap.size,33,none⟩=some (.slice u3 n3 c3)
 r4:Y.cell? ⟨w.heap.size,34,none⟩=some (.slice u4 n4 c4)
 s:Y.cell? ⟨w.heap.size,60,none⟩=some (.int .i64 x)
 b0:Y.cell? ⟨w.heap.size,61,none⟩=some (.int .i64 l)
 b1:Y.cell? ⟨w.heap.size,62,none⟩=some (.int .i64 a)
 b2:Y.cell? ⟨w.heap.size,63,none⟩=some (.bool g)
 b3:Y.cell? ⟨w.heap.size,64,none⟩=some (.int .i64 f)
 k:Y.cell? ⟨w.heap.size,72,none⟩=some (.int .i64 k)
 m:Y.cell? ⟨w.heap.size,73,none⟩=some (.int .i64 m)
 q:Y.cell? ⟨w.heap.size,74,none⟩=some (.int .i64 q)
theorem CkW.mk0(M:Mach)(S:Sl)(w:World)(t:TypeId){u0 u1 u2 u3 u4:Option Addr}{c0 c1 c2 c3 c4:Nat}(c:S.get 0=.slice u0 M.mrom.length c0)(e1:S.get 1=.slice u1 M.arom.length c1)(e2:S.get 2=.slice u2 M.ram.length c2)(e3:S.get 3=.slice u3 M.own.length c3)(e4:S.get 4=.slice u4 M.video.length c4):CkW w u0 u1 u2 u3 u4 M.mrom.length M.arom.length M.ram.length M.own.length M.video.length c0 c1 c2 c3 c4 M.s.w M.b.l M.b.a M.b.f M.clock M.mready M.aready M.b.g (w.alloc (.cells (D M S).toArray t)):=by
 have h:=Bx.new w (D M S) t (b:=w.heap.size) U;exact⟨stA (J w) _,h.z,(h.at 30 (S.get 0) U).trans (by rw[c]),(h.at 31 (S.get 1) U).trans (by rw[e1]),(h.at 32 (S.get 2) U).trans (by rw[e2]),(h.at 33 (S.get 3) U).trans (by rw[e3]),(h.at 34 (S.get 4) U).trans (by rw[e4]),h.at 60 _ U,h.at 61 _ U,h.at 62 _ U,h.at 63 _ U,h.at 64 _ U,h.at 72 _ U,h.at 73 _ U,h.at 74 _ U⟩
theorem oC(M:Mach)(S:Sl)(w:World)(b:S.lens M):Calls prog 35 #[.agg (D M S).toArray] w λe w'=>e=.returned (.int .i64 M.chk)/\Below w.heap.size w w':=by
 obtain⟨u0,c0,d⟩:=b 0 (by omega);obtain⟨u1,c1,e1⟩:=b 1 (by omega);obtain⟨u2,c2,e2⟩:=b 2 (by omega);obtain⟨u3,c3,e3⟩:=b 3 (by omega);obtain⟨u4,c4,e4⟩:=b 4 (by omega);have f:=hid (CkW.mk0 M S w 41 d e1 e2 e3 e4);obtain⟨v,c⟩:∃ v,M.chk=v:=⟨_,U⟩
 rw[c];have h:=hid c;clear c d e1 e2 e3 e4 b;go_enter func35,ntmps35;go_upto_region 1 with fail
 refine Pl.cutW (CkW w u0 u1 u2 u3 u4 _ _ _ _ _ c0 c1 c2 c3 c4 _ _ _ _ _ _ _ _) f.out ?_;intro Y i;obtain⟨a,z,r0,r1,r2,r3,r4,s,b0,b1,b2,b3,j,k,l⟩:=i;have g:=hid a;clear a f;go_wp2;all_goals
  go_ret;refine⟨?_,by first|exact g.out|exact stA g.out _⟩;have c:=h.out;simp only[Mach.chk,na,bC] at c;try simp only[jh,ne_eq,bne_eq_false_iff_eq] at *
  refine congrArg (λz=>Ending.returned (.int .i64 z)) ?_;subst c
  repeat' split
  all_goals omega
theorem zuo(a0 a1 a2 a3 a4 a5 h j k a9 a b c e f g:Int)(d:Nat)(w:World):(Op.equalIn (d+2) 66 (.agg #[.int .u8 a0,.int .u8 a1,.int .u8 a2,.int .u8 a3,.int .u8 a4,.int .u8 a5,.int .u8 h,.int .u8 j,.int .u8 k,.int .u8 a9,.int .u8 a,.int .u8 b,.int .u8 c,.int .u8 e,.int .u8 f,.int .u8 g]) (.agg #[.int .u8 a0,.int .u8 a1,.int .u8 a2,.int .u8 a3,.int .u8 a4,.int .u8 a5,.int .u8 h,.int .u8 j,.int .u8 k,.int .u8 a9,.int .u8 a,.int .u8 b,.int .u8 c,.int .u8 e,.int .u8 f,.int .u8 g])).run prog w=.ok true w:=by
 have u3:=underlying5;have x3:=isAgg5;have z3:=sizeOf5;have l:Tryz.prog.cellsOf 5=1:=by kernel_rfl
 have m:(Tryz.prog.info? 5).isSome=true:=by kernel_rfl
 obtain⟨i,hi⟩:=cL.1 m;rw[dT w (d+1) _ _ underlying66 hi,l];simp only[List.range,List.range.loop,Op.eqItems];go_simp
theorem zmc(f l:Int)(a0 a1 a2 a3 a4 a5 h i j a9 a b c d e g:Int)(w:World):(binOp .eql 68 (.agg #[.int .i64 f,.int .i64 l,.int .u8 a0,.int .u8 a1,.int .u8 a2,.int .u8 a3,.int .u8 a4,.int .u8 a5,.int .u8 h,.int .u8 i,.int .u8 j,.int .u8 a9,.int .u8 a,.int .u8 b,.int .u8 c,.int .u8 d,.int .u8 e,.int .u8 g]) (.agg #[.int .i64 f,.int .i64 l,.int .u8 a0,.int .u8 a1,.int .u8 a2,.int .u8 a3,.int .u8 a4,.int .u8 a5,.int .u8 h,.int .u8 i,.int .u8 j,.int .u8 a9,.int .u8 a,.int .u8 b,.int .u8 c,.int .u8 d,.int .u8 e,.int .u8 g])).run prog w=.ok (.bool true) w:=by
 have u3:=underlying3;have x3:=isAgg3;have z3:=sizeOf3;have m:=isAgg66;have z5:=sizeOf66;have n:=zuo a0 a1 a2 a3 a4 a5 h i j a9 a b c d e g 9997;have k:Tryz.prog.underlying 68=some (.struct (Tryz.prog.fieldsOf 68)):=by kernel_rfl
 have hp:Tryz.prog.stoodInHeld 68=false:=by kernel_rfl
 rw[cn,show (10000:Nat)=9999+1 from U,cO w 9999 68 _ _ k hp];simp only[Program.fieldsOf,underlying68];go_simp
theorem zmd(c a v:Int)(w:World):(binOp .eql 104 (.agg #[.int .i64 c,.int .i64 a,.int .u8 v]) (.agg #[.int .i64 c,.int .i64 a,.int .u8 v])).run prog w=.ok (.bool true) w:=by
 have u3:=underlying3;have x3:=isAgg3;have z3:=sizeOf3;have d:=underlying5;have e:=isAgg5;have z5:=sizeOf5;have b:Tryz.prog.underlying 104=some (.struct (Tryz.prog.fieldsOf 104)):=by kernel_rfl
 have hp:Tryz.prog.stoodInHeld 104=false:=by kernel_rfl
 rw[cn,show (10000:Nat)=9999+1 from U,cO w 9999 104 _ _ b hp];simp only[Program.fieldsOf,underlying104];go_simp
def kK(x:Lin):List Value:=.int .i64 x.f :: .int .i64 x.l::bf x.px
def kL(x:Wt):List Value:=[.int .i64 x.c,.int .i64 x.a,.int .u8 x.v]
theorem zpk(x:Lin)(w:World):(binOp .neq 68 (.agg (kK x).toArray) (.agg (kK x).toArray)).run prog w=.ok (.bool false) w:=zfS (zmc x.f x.l (x.px 0) (x.px 1) (x.px 2) (x.px 3) (x.px 4) (x.px 5) (x.px 6) (x.px 7) (x.px 8) (x.px 9) (x.px 10) (x.px 11) (x.px 12) (x.px 13) (x.px 14) (x.px 15) w)
theorem zme(x:Wt)(w:World):(binOp .neq 104 (.agg (kL x).toArray) (.agg (kL x).toArray)).run prog w=.ok (.bool false) w:=zfS (zmd x.c x.a x.v w)
theorem zmf:∀(l:List Lin) (i:Nat) (x:Lin),l[i]?=some x->∀(j:Nat) (v:Value),(kK x)[j]?=some v->(jM l)[i*18+j]?=some v
 | [],i,x,h=>by simp at h
 | y::l,0,x,h=>λj v a=>by
  simp only[aY,aP] at h;subst h;rw[fl,aN];show (kK y++jM l)[j]?=_;rw[aR (aA.1 a).1];exact a
 | y::l,i+1,x,h=>λj v a=>by
  rw[bi] at h;have:=zmf l i x h j v a;show (kK y++jM l)[(i+1)*18+j]?=_;have b:(kK y).length=18:=by simp[kK,lh]
  rw[aO (by rw[b];omega),b,show (i+1)*18+j-18=i*18+j by omega];exact this
theorem zmg:∀(l:List Wt) (i:Nat) (x:Wt),l[i]?=some x->∀(j:Nat) (v:Value),(kL x)[j]?=some v->(kv l)[i*3+j]?=some v
 | [],i,x,h=>by simp at h
 | y::l,0,x,h=>λj v a=>by
  simp only[aY,aP] at h;subst h;rw[fl,aN];show (kL y++kv l)[j]?=_;rw[aR (aA.1 a).1];exact a
 | y::l,i+1,x,h=>λj v a=>by
  rw[bi] at h;have:=zmg l i x h j v a;show (kL y++kv l)[(i+1)*3+j]?=_;rw[aO (by simp[kL];omega),show (kL y).length=3 from U,show (i+1)*3+j-3=i*3+j by omega];exact this
theorem znL:(Tryz.prog.info? 68).map (·.size)=some 18:=by kernel_rfl
theorem znM:(Tryz.prog.info? 104).map (·.size)=some 3:=by kernel_rfl
theorem Lk.sameLn(f v2:Value)(l:List Lin)(w:World)(h1:iJ w f l.length 18 (jM l))(h2:iJ w v2 l.length 18 (jM l))(t:l.length<=1000000):Calls prog 39 #[f,v2] w λe w'=>e=.returned (.bool true)/\Below w.heap.size w w':=by
 obtain⟨a1,u,e1⟩:=h1.len;obtain⟨a2,v,e2⟩:=h2.len;subst e1 e2;have m:=hid h1;have n:=hid h2;clear h1 h2;go_enter func39,ntmps39;go_wp2;go_loopw [13] (λi wr=>∃ j:Nat,j<=l.length/\i=.int .i64 j/\Below w.heap.size w wr) (λi _=>l.length-(intOf i).toNat)
 case atStart=>exact⟨0,aU _,U,J w⟩
 case round =>
  obtain⟨j,y,rfl,hb⟩:=hrel;have g:=hid hb;by_cases b:j<l.length
  ·have h:(j:Int)<l.length:=by omega
   have o:(0:Int)<=j:=by omega
   have p:(j:Int)<1000000:=by omega
   obtain⟨x,d⟩:∃ x,l[j]?=some x:=⟨_,au b⟩
   obtain⟨g1,o1,c1,q1,z,r1⟩:=(m.out.kept hb).range b (zmf l j x d);obtain⟨k,o2,c2,q,z2,r2⟩:=(n.out.kept hb).range b (zmf l j x d);cases q1;cases q;have r:=zpk x;clear hb d;go_upto_region 6 with fail
   refine wp_region_held_drew (S:=λw'=>w'.rangeAt g1 (o1+j*18) (kK x)/\w'.rangeAt k (o2+j*18) (kK x)) (by kernel_rfl) ⟨r1,r2⟩ ?_;intro a;refine ee 0 ⟨some 16,_,_,_,_,none⟩ a ?_;simp only[Act.put,xA,xB,xC];refine ee 1 ⟨some 17,_,_,_,_,none⟩ a ?_;simp only[Act.put,xA,xB,xC];refine ee 2 ⟨some 18,_,_,_,_,none⟩ a ?_;simp only[Act.put,xA,xB,xC];refine iq 3 (.agg (kK x).toArray) U (λw' c=>kt 68 _ U g1 (o1+j*18) U (kK x) _ c.1 underlying68 U znL) a ?_;refine ee 4 ⟨some 20,_,_,_,_,none⟩ a ?_;simp only[Act.put,xA,xB,xC];refine ee 5 ⟨some 21,_,_,_,_,none⟩ a ?_;simp only[Act.put,xA,xB,xC];refine ee 6 ⟨some 22,_,_,_,_,none⟩ a ?_;simp only[Act.put,xA,xB,xC];refine iq 7 (.agg (kK x).toArray) U (λw' c=>kt 68 _ U k (o2+j*18) U (kK x) _ c.2 underlying68 U znL) a ?_;refine ee 8 ⟨some 24,_,_,_,_,none⟩ a ?_;simp only[Act.put,xA,xB,xC];refine wpAnyH_done (by kernel_rfl) ?_ _;clear a r1 r2;go_wp2;exact⟨⟨j+1,by omega,by simp,g.out.drew⟩,by simp[intOf];omega⟩
  ·have s:¬ (j:Int)<l.length:=by omega
   clear hb;go_wp2;go_ret;exact⟨U,g.out⟩
theorem Lk.sameWr(f v2:Value)(l:List Wt)(w:World)(h1:iJ w f l.length 3 (kv l))(h2:iJ w v2 l.length 3 (kv l))(t:l.length<=1000000):Calls prog 40 #[f,v2] w λe w'=>e=.returned (.bool true)/\Below w.heap.size w w':=by
 obtain⟨a1,u,e1⟩:=h1.len;obtain⟨a2,v,e2⟩:=h2.len;subst e1 e2;have m:=hid h1;have n:=hid h2;clear h1 h2;go_enter func40,ntmps40;go_wp2;go_loopw [13] (λi wr=>∃ j:Nat,j<=l.length/\i=.int .i64 j/\Below w.heap.size w wr) (λi _=>l.length-(intOf i).toNat)
 case atStart=>exact⟨0,aU _,U,J w⟩
 case round =>
  obtain⟨j,y,rfl,hb⟩:=hrel;have g:=hid hb;by_cases b:j<l.length
  ·have h:(j:Int)<l.length:=by omega
   have o:(0:Int)<=j:=by omega
   have p:(j:Int)<1000000:=by omega
   obtain⟨x,d⟩:∃ x,l[j]?=some x:=⟨_,au b⟩
   obtain⟨g1,o1,c1,q1,z,r1⟩:=(m.out.kept hb).range b (zmg l j x d);obtain⟨k,o2,c2,q,z2,r2⟩:=(n.out.kept hb).range b (zmg l j x d);cases q1;cases q;have r:=zme x;clear hb d;go_upto_region 6 with fail
   refine wp_region_held_drew (S:=λw'=>w'.rangeAt g1 (o1+j*3) (kL x)/\w'.rangeAt k (o2+j*3) (kL x)) (by kernel_rfl) ⟨r1,r2⟩ ?_;intro a;refine ee 0 ⟨some 16,_,_,_,_,none⟩ a ?_;simp only[Act.put,xA,xB,xC];refine ee 1 ⟨some 17,_,_,_,_,none⟩ a ?_;simp only[Act.put,xA,xB,xC];refine ee 2 ⟨some 18,_,_,_,_,none⟩ a ?_;simp only[Act.put,xA,xB,xC];refine iq 3 (.agg (kL x).toArray) U (λw' c=>kt 104 _ U g1 (o1+j*3) U (kL x) _ c.1 underlying104 U znM) a ?_;refine ee 4 ⟨some 20,_,_,_,_,none⟩ a ?_;simp only[Act.put,xA,xB,xC];refine ee 5 ⟨some 21,_,_,_,_,none⟩ a ?_;simp only[Act.put,xA,xB,xC];refine ee 6 ⟨some 22,_,_,_,_,none⟩ a ?_;simp only[Act.put,xA,xB,xC];refine iq 7 (.agg (kL x).toArray) U (λw' c=>kt 104 _ U k (o2+j*3) U (kL x) _ c.2 underlying104 U znM) a ?_;refine ee 8 ⟨some 24,_,_,_,_,none⟩ a ?_;simp only[Act.put,xA,xB,xC];refine wpAnyH_done (by kernel_rfl) ?_ _;clear a r1 r2;go_wp2;exact⟨⟨j+1,by omega,by simp,g.out.drew⟩,by simp[intOf];omega⟩
  ·have s:¬ (j:Int)<l.length:=by omega
   clear hb;go_wp2;go_ret;exact⟨U,g.out⟩
structure ShAt (w : World) (v1 v2 v3 : Value) (ln : List Lin) (sm : List UInt8) (ws : List Wt) : Prop where
 ln:iJ w v1 ln.length 18 (jM ln)
 sm:sliceAt w v2 sm
 ws:iJ w v3 ws.length 3 (kv ws)
theorem ShAt.kept{w w1:World}{a v2 v3:Value}{ln:List Lin}{sm:List UInt8}{ws:List Wt}(h:ShAt w a v2 v3 ln sm ws)(hb:Below w.heap.size w w1):ShAt w1 a v2 v3 ln sm ws:=⟨h.ln.kept hb,h.sm.kept hb,h.ws.kept hb⟩
theorem Lk.sameShown(i v2 v3 u1 u2 u3:Value)(ln:List Lin)(sm:List UInt8)(ws:List Wt)(w:World)(h:ShAt w i v2 v3 ln sm ws)(k:ShAt w u1 u2 u3 ln sm ws)(h1:ln.length<=1000000)(h3:ws.length<=1000000):Calls prog 14 #[.agg #[i,v2,v3],.agg #[u1,u2,u3]] w λe w'=>e=.returned (.bool true)/\Below w.heap.size w w':=by
 obtain⟨a1,j,e1⟩:=h.ln.len;obtain⟨a2,l,e2⟩:=oJ h.sm;obtain⟨a3,m,e3⟩:=h.ws.len;obtain⟨b1,m1,f1⟩:=k.ln.len;obtain⟨b2,n,f2⟩:=oJ k.sm;obtain⟨b3,o,f3⟩:=k.ws.len;subst e1 e2 e3 f1 f2 f3;have H:=hid h;have K:=hid k;have c:=hid h1;have d:=hid h3;clear h k h1 h3;go_enter func14,ntmps14;go_wp2_with (first
  | (go_at_call 39;refine(Lk.sameLn _ _ ln _ (H.out.kept (stA (stA (J w) _) _)).ln (K.out.kept (stA (stA (J w) _) _)).ln c.out).mono ?_;rintro e w1 ⟨rfl,b⟩;have a:=hid (bn (stA (stA (J w) (.cells #[.slice a1 ln.length j,.slice a2 sm.length l,.slice a3 ws.length m] 47)) (.cells #[.slice b1 ln.length m1,.slice b2 sm.length n,.slice b3 ws.length o] 47)) b);obtain⟨p,q⟩:=bQ b;have r:w.heap.size+1<w1.heap.size:=by have:=b.size;simp at this;omega)
  | (go_at_call 38;refine(zjB _ _ sm sm _ (H.out.kept a.out).sm (K.out.kept a.out).sm).mono ?_;rw[kQ];rintro e w2 ⟨rfl,rfl⟩)
  | (go_at_call 40;refine(Lk.sameWr _ _ ws _ (H.out.kept a.out).ws (K.out.kept a.out).ws d.out).mono ?_;rintro e s ⟨rfl,f⟩;have g:=hid (bn a.out f)))
 go_ret;exact⟨U,g.out⟩
theorem xt{s:List Value}(h:s.length=2):∃ c0 c1,s=[c0,c1]:=by
 match s,h with
 | [c0,c1],_=>exact⟨c0,c1,U⟩
theorem qT{s:List Value}(h:s.length=4):∃ c0 c1 c2 c3,s=[c0,c1,c2,c3]:=by
 match s,h with
 | [c0,c1,c2,c3],_=>exact⟨c0,c1,c2,c3,U⟩
theorem xu{s:List Value}(h:s.length=6):∃ c0 c1 c2 c3 c4 c5,s=[c0,c1,c2,c3,c4,c5]:=by
 match s,h with
 | [c0,c1,c2,c3,c4,c5],_=>exact⟨c0,c1,c2,c3,c4,c5,U⟩
theorem rY{s:List Value}(h:s.length=15):∃ c0 c1 c2 c3 c4 c5 f g i c9 a b c d e,s=[c0,c1,c2,c3,c4,c5,f,g,i,c9,a,b,c,d,e]:=by
 match s,h with
 | [c0,c1,c2,c3,c4,c5,f,g,i,c9,a,b,c,d,e],_=>exact⟨c0,c1,c2,c3,c4,c5,f,g,i,c9,a,b,c,d,e,U⟩
theorem rZ{s:List Value}(h:s.length=16):∃ c0 c1 c2 c3 c4 c5 g i j c9 a b c d e f,s=[c0,c1,c2,c3,c4,c5,g,i,j,c9,a,b,c,d,e,f]:=by
 match s,h with
 | [c0,c1,c2,c3,c4,c5,g,i,j,c9,a,b,c,d,e,f],_=>exact⟨c0,c1,c2,c3,c4,c5,g,i,j,c9,a,b,c,d,e,f,U⟩
section
variable {H : Type} {enc : TypeId × Value -> H} {w : World} {base : Nat} {spare : Nat -> Bool} {held : Bool} {n : Nat} {x : DataW H × List MemPlace} {s : List Value}
theorem zr5(h:DataW.trod enc prog w base spare held n 25 s=some x)(B:s.length=15):∃ c:C.Cpu,s=bG c/\c.ok:=by
 have a:Tryz.prog.cellsOf 22=1:=by kernel_rfl
 have hB:Tryz.prog.cellsOf 4=1:=by kernel_rfl
 have V:Tryz.prog.cellsOf 5=1:=by kernel_rfl
 have W:Tryz.prog.cellsOf 3=1:=by kernel_rfl
 have e:Tryz.prog.cellsOf 23=8:=by kernel_rfl
 obtain⟨c0,c1,c2,c3,c4,c5,r,t,u,c9,f,g,i,j,l,rfl⟩:=rY B;obtain⟨xs,m,_,_,_,p,b⟩:=cG underlying25 h;have E:xs.length=8:=p;have g0:DataW.trod enc prog w base spare held m 23 (([c0,c1,c2,c3,c4,c5,r,t,u,c9,f,g,i,j,l].drop 0).take (Tryz.prog.cellsOf 23))=xs[0]?:=b 0 _ U;rw[au (by omega)] at g0;obtain⟨ys,k,_,_,_,F,d⟩:=gK underlying23 g0;obtain⟨a0,rfl,w0⟩:=ki (o:=0*Tryz.prog.cellsOf 22) (v:=c0) (d 0 (by omega)) (by omega) a underlying22 (by rw[a,e];rfl);obtain⟨a1,rfl,w1⟩:=ki (o:=1*Tryz.prog.cellsOf 22) (v:=c1) (d 1 (by omega)) (by omega) a underlying22 (by rw[a,e];rfl);obtain⟨a2,rfl,w2⟩:=ki (o:=2*Tryz.prog.cellsOf 22) (v:=c2) (d 2 (by omega)) (by omega) a underlying22 (by rw[a,e];rfl);obtain⟨a3,rfl,H⟩:=ki (o:=3*Tryz.prog.cellsOf 22) (v:=c3) (d 3 (by omega)) (by omega) a underlying22 (by rw[a,e];rfl);obtain⟨a4,rfl,w4⟩:=ki (o:=4*Tryz.prog.cellsOf 22) (v:=c4) (d 4 (by omega)) (by omega) a underlying22 (by rw[a,e];rfl)
 obtain⟨a5,rfl,I⟩:=ki (o:=5*Tryz.prog.cellsOf 22) (v:=c5) (d 5 (by omega)) (by omega) a underlying22 (by rw[a,e];rfl);obtain⟨L,rfl,M⟩:=ki (o:=6*Tryz.prog.cellsOf 22) (v:=r) (d 6 (by omega)) (by omega) a underlying22 (by rw[a,e];rfl);obtain⟨N,rfl,w7⟩:=ki (o:=7*Tryz.prog.cellsOf 22) (v:=t) (d 7 (by omega)) (by omega) a underlying22 (by rw[a,e];rfl);obtain⟨P,rfl,q⟩:=ki (ty:=22) (o:=8) (v:=u) (b 1 _ U) (by omega) a underlying22 U;obtain⟨b0,rfl⟩:=nE (ty:=4) (o:=9) (v:=c9) (b 2 _ U) (by omega) hB underlying4 U;obtain⟨b1,rfl⟩:=nE (ty:=4) (o:=10) (v:=f) (b 3 _ U) (by omega) hB underlying4 U;obtain⟨b2,rfl⟩:=nE (ty:=4) (o:=11) (v:=g) (b 4 _ U) (by omega) hB underlying4 U;obtain⟨b3,rfl⟩:=nE (ty:=4) (o:=12) (v:=i) (b 5 _ U) (by omega) hB underlying4 U;obtain⟨R,rfl⟩:=nE (ty:=4) (o:=13) (v:=j) (b 6 _ U) (by omega) hB underlying4 U;obtain⟨T,rfl⟩:=nE (ty:=4) (o:=14) (v:=l) (b 7 _ U) (by omega) hB underlying4 U
 refine⟨⟨[a0,a1,a2,a3,a4,a5,L,N],P,b0,b1,b2,b3,R,T⟩,U,U,λz y=>?_,(cE q).1,(cE q).2⟩;simp only[aV,bJ,dG] at y;rcases y with rfl|rfl|rfl|rfl|rfl|rfl|rfl|rfl
 ·exact cE w0
 ·exact cE w1
 ·exact cE w2
 ·exact cE H
 ·exact cE w4
 ·exact cE I
 ·exact cE M
 ·exact cE w7
theorem zr6(h:DataW.trod enc prog w base spare held n 28 s=some x)(g:s.length=3):∃ p:Pd,s=[.int .u8 p.d,.bool p.l,.int .u8 p.s]/\p.ok:=by
 have i:Tryz.prog.cellsOf 22=1:=by kernel_rfl
 have hB:Tryz.prog.cellsOf 4=1:=by kernel_rfl
 have f:Tryz.prog.cellsOf 5=1:=by kernel_rfl
 have j:Tryz.prog.cellsOf 3=1:=by kernel_rfl
 obtain⟨c0,c1,c2,rfl⟩:=qS g;obtain⟨xs,m,_,_,_,b,a⟩:=cG underlying28 h;have k:xs.length=3:=b;obtain⟨a0,rfl,c⟩:=ki (ty:=5) (o:=0) (v:=c0) (a 0 _ U) (by omega) f underlying5 U;obtain⟨b1,rfl⟩:=nE (ty:=4) (o:=1) (v:=c1) (a 1 _ U) (by omega) hB underlying4 U;obtain⟨a2,rfl,e⟩:=ki (ty:=5) (o:=2) (v:=c2) (a 2 _ U) (by omega) f underlying5 U;exact⟨⟨a0,b1,a2⟩,U,io c,io e⟩
theorem zup(h:DataW.trod enc prog w base spare held n 29 s=some x)(e:s.length=6):∃ p q:Pd,s=[.int .u8 p.d,.bool p.l,.int .u8 p.s,.int .u8 q.d,.bool q.l,.int .u8 q.s]/\p.ok/\q.ok:=by
 have f:Tryz.prog.cellsOf 28=3:=by kernel_rfl
 obtain⟨c0,c1,c2,c3,c4,c5,rfl⟩:=xu e;obtain⟨ys,m,_,_,_,g,a⟩:=gK underlying29 h;have b:=a 0 (by omega);have c:=a 1 (by omega);rw[f,au (by omega)] at b c;obtain⟨p,ep,hp⟩:=zr6 (s:=[c0,c1,c2]) b U;obtain⟨q,eq,i⟩:=zr6 (s:=[c3,c4,c5]) c U;simp only[cN,and_true] at ep eq;obtain⟨rfl,rfl,rfl⟩:=ep;obtain⟨rfl,rfl,rfl⟩:=eq;exact⟨p,q,U,hp,i⟩
theorem zr7(h:DataW.trod enc prog w base spare held n 31 s=some x)(i:s.length=4):∃ t:TM,s=[.int .u16 t.r,.int .u16 t.c,.bool t.on,.bool t.g]/\fu t.r/\fu t.c:=by
 have f:Tryz.prog.cellsOf 22=1:=by kernel_rfl
 have hB:Tryz.prog.cellsOf 4=1:=by kernel_rfl
 have j:Tryz.prog.cellsOf 5=1:=by kernel_rfl
 have k:Tryz.prog.cellsOf 3=1:=by kernel_rfl
 obtain⟨c0,c1,c2,c3,rfl⟩:=qT i;obtain⟨xs,m,_,_,_,b,a⟩:=cG underlying31 h;have l:xs.length=4:=b;obtain⟨a0,rfl,d⟩:=ki (ty:=22) (o:=0) (v:=c0) (a 0 _ U) (by omega) f underlying22 U;obtain⟨a1,rfl,e⟩:=ki (ty:=22) (o:=1) (v:=c1) (a 1 _ U) (by omega) f underlying22 U;obtain⟨b2,rfl⟩:=nE (ty:=4) (o:=2) (v:=c2) (a 2 _ U) (by omega) hB underlying4 U;obtain⟨b3,rfl⟩:=nE (ty:=4) (o:=3) (v:=c3) (a 3 _ U) (by omega) hB underlying4 U;exact⟨⟨a0,a1,b2,b3⟩,U,cE d,cE e⟩
theorem zuq(h:DataW.trod enc prog w base spare held n 38 s=some x)(i:s.length=4):∃ b:Bem,s=[.int .i64 b.l,.int .i64 b.a,.bool b.g,.int .i64 b.f]:=by
 have q:Tryz.prog.cellsOf 22=1:=by kernel_rfl
 have hB:Tryz.prog.cellsOf 4=1:=by kernel_rfl
 have r:Tryz.prog.cellsOf 5=1:=by kernel_rfl
 have e:Tryz.prog.cellsOf 3=1:=by kernel_rfl
 obtain⟨c0,c1,c2,c3,rfl⟩:=qT i;obtain⟨xs,m,_,_,_,d,c⟩:=cG underlying38 h;have t:xs.length=4:=d;obtain⟨a0,rfl,j⟩:=ki (ty:=3) (o:=0) (v:=c0) (c 0 _ U) (by omega) e underlying3 U;obtain⟨a1,rfl,k⟩:=ki (ty:=3) (o:=1) (v:=c1) (c 1 _ U) (by omega) e underlying3 U;obtain⟨b2,rfl⟩:=nE (ty:=4) (o:=2) (v:=c2) (c 2 _ U) (by omega) hB underlying4 U;obtain⟨a3,rfl,p⟩:=ki (ty:=3) (o:=3) (v:=c3) (c 3 _ U) (by omega) e underlying3 U;exact⟨⟨a0,a1,b2,a3⟩,U⟩
theorem zur(h:DataW.trod enc prog w base spare held n 39 s=some x)(e:s.length=2):∃ a b:Int,s=[.int .u8 a,.int .u8 b]/\bd8 a/\bd8 b:=by
 have g:Tryz.prog.cellsOf 22=1:=by kernel_rfl
 have hB:Tryz.prog.cellsOf 4=1:=by kernel_rfl
 have d:Tryz.prog.cellsOf 5=1:=by kernel_rfl
 have i:Tryz.prog.cellsOf 3=1:=by kernel_rfl
 obtain⟨c0,c1,rfl⟩:=xt e;obtain⟨ys,k,_,_,_,f,c⟩:=gK underlying39 h;obtain⟨a0,rfl,w0⟩:=ki (o:=0*Tryz.prog.cellsOf 5) (v:=c0) (c 0 (by omega)) (by omega) d underlying5 (by rw[d];rfl);obtain⟨a1,rfl,w1⟩:=ki (o:=1*Tryz.prog.cellsOf 5) (v:=c1) (c 1 (by omega)) (by omega) d underlying5 (by rw[d];rfl);exact⟨a0,a1,U,io w0,io w1⟩
theorem zr8(h:DataW.trod enc prog w base spare held n 36 s=some x)(F:s.length=16):∃ d:Sd,s=dA d/\d.ok:=by
 have X:Tryz.prog.cellsOf 22=1:=by kernel_rfl
 have hB:Tryz.prog.cellsOf 4=1:=by kernel_rfl
 have Y:Tryz.prog.cellsOf 5=1:=by kernel_rfl
 have H:Tryz.prog.cellsOf 3=1:=by kernel_rfl
 have I:Tryz.prog.cellsOf 33=5:=by kernel_rfl
 have L:Tryz.prog.cellsOf 34=15:=by kernel_rfl
 obtain⟨c0,c1,c2,c3,c4,c5,q,r,t,c9,b,c,e,f,g,i,rfl⟩:=rZ F;obtain⟨xs,k,_,_,_,j,l⟩:=cG underlying36 h;have M:xs.length=2:=j;have g0:DataW.trod enc prog w base spare held k 34 (([c0,c1,c2,c3,c4,c5,q,r,t,c9,b,c,e,f,g,i].drop 0).take (Tryz.prog.cellsOf 34))=xs[0]?:=l 0 _ U;rw[au (by omega),L] at g0;obtain⟨ys,m,_,_,_,N,a⟩:=gK zdy g0;have u:=a 0 (by omega);have y:=a 1 (by omega);have z:=a 2 (by omega);rw[I,au (by omega)] at u y z;obtain⟨P,B,R⟩:=zeF (c0:=c0) (c1:=c1) (c2:=c2) (c3:=c3) (c4:=c4) u;obtain⟨T,eb,hb⟩:=zeF (c0:=c5) (c1:=q) (c2:=r) (c3:=t) (c4:=c9) y;obtain⟨V,E,hc⟩:=zeF (c0:=b) (c1:=c) (c2:=e) (c3:=f) (c4:=g) z;obtain⟨p,rfl,W⟩:=ki (ty:=3) (o:=15) (v:=i) (l 1 _ U) (by omega) H underlying3 U;simp only[cN,and_true] at B eb E;obtain⟨rfl,rfl,rfl,rfl,rfl⟩:=B;obtain⟨rfl,rfl,rfl,rfl,rfl⟩:=eb;obtain⟨rfl,rfl,rfl,rfl,rfl⟩:=E;exact⟨⟨P,T,V,p⟩,U,⟨R,hb,hc⟩⟩
end
theorem oD{H:Type}{enc:TypeId × Value->H}{P:Program}{w:World}{base:Nat}{spare:Nat->Bool}{held:Bool}{n i o k:Nat}{ty:TypeId}{cs:List Value}{xs:List (DataW H × List MemPlace)}
 (h:DataW.trod enc P w base spare held n ty ((cs.drop o).take (P.cellsOf ty))=xs[i]?) (hi:i<xs.length:=by omega) (hc:P.cellsOf ty=k:=by kernel_rfl):∃ y,DataW.trod enc P w base spare held n ty ((cs.drop o).take k)=some y:=by
 rw[hc,au hi] at h;exact⟨_,h⟩
theorem mj{l R:List Value}{n k m:Nat}(a:n+k=m)(h:l.drop m=R):l.drop n=(l.drop n).take k++R:=by
 subst a;rw[<- h,<- jW];exact(jC k _).symm
theorem zr9{l:List Value}{n k:Nat}(h:l.length<=n+k):l.drop n=(l.drop n).take k:=(cD (by rw[dh];omega)).symm
theorem nY{cs:List Value}(o:Nat)(h:o<cs.length:=by omega):∃ v,cs[o]?=some v/\(cs.drop o).take 1=[v]:=⟨cs[o],au h,by rw[kg,jz,au h];rfl⟩
theorem zj5{H:Type}{enc:TypeId × Value->H}{W:World}{base:Nat}{v:Value}{d:DataW H}{p:List MemPlace}(hv:Value.okWide prog W .any base 41 v)(h:DataW.Trod enc prog W 0 (λ_=>true) true 41 v d p):∃(M:Mach) (S:Sl),v=.agg (D M S).toArray/\M.ok/\bM W S M /\ ∀ j,j<5->(M.byt j).length<=maxLen:=by
 have hU:Tryz.prog.cellsOf 22=1:=by kernel_rfl
 have hB:Tryz.prog.cellsOf 4=1:=by kernel_rfl
 have hE:Tryz.prog.cellsOf 5=1:=by kernel_rfl
 have e:Tryz.prog.cellsOf 3=1:=by kernel_rfl
 have hM:Tryz.prog.cellsOf 41=75:=by kernel_rfl
 obtain⟨cs,rfl,f⟩:=okWide_struct underlying41 hv;obtain⟨l⟩:=cs;have b:l.length=75:=f.trans hM;obtain⟨fuel,g⟩:=h;have hf:DataW.trod enc prog W 0 (λ_=>true) true fuel 41 l=some (d,p):=g;obtain⟨xs,m,_,_,_,c,a⟩:=cG underlying41 hf;have hx:xs.length=20:=c;obtain⟨y0,g0⟩:=oD (ty:=25) (o:=0) (k:=15) (a 0 _ U);obtain⟨m0,e0,k0⟩:=zr5 g0 (by simp[b]);obtain⟨y1,g1⟩:=oD (ty:=25) (o:=15) (k:=15) (a 1 _ U);obtain⟨m1,e1,k1⟩:=zr5 g1 (by simp[b]);obtain⟨u2,r2,e2⟩:=nY (cs:=l) 30;obtain⟨y2,g2⟩:=oD (ty:=26) (o:=30) (k:=1) (a 2 _ U);rw[e2] at g2;obtain⟨m2,k2,q2⟩:=rB g2;obtain⟨u3,r3,e3⟩:=nY (cs:=l) 31;obtain⟨y3,g3⟩:=oD (ty:=26) (o:=31) (k:=1) (a 3 _ U);rw[e3] at g3;obtain⟨m3,k3,q3⟩:=rB g3;obtain⟨u4,r4,e4⟩:=nY (cs:=l) 32;obtain⟨y4,g4⟩:=oD (ty:=26) (o:=32) (k:=1) (a 4 _ U);rw[e4] at g4;obtain⟨m4,k4,q4⟩:=rB g4;obtain⟨u5,r5,e5⟩:=nY (cs:=l) 33;obtain⟨y5,g5⟩:=oD (ty:=26) (o:=33) (k:=1) (a 5 _ U);rw[e5] at g5;obtain⟨m5,k5,q5⟩:=rB g5
 obtain⟨u6,r6,e6⟩:=nY (cs:=l) 34;obtain⟨y6,g6⟩:=oD (ty:=26) (o:=34) (k:=1) (a 6 _ U);rw[e6] at g6;obtain⟨m6,k6,q6⟩:=rB g6;obtain⟨y7,g7⟩:=oD (ty:=29) (o:=35) (k:=6) (a 7 _ U);obtain⟨m7,n7,e7,k7,q7⟩:=zup g7 (by simp[b]);obtain⟨y8,g8⟩:=oD (ty:=31) (o:=41) (k:=4) (a 8 _ U);obtain⟨m8,e8,k8,q8⟩:=zr7 g8 (by simp[b]);obtain⟨y9,g9⟩:=oD (ty:=36) (o:=45) (k:=16) (a 9 _ U);obtain⟨m9,e9,k9⟩:=zr8 g9 (by simp[b]);obtain⟨y10,i⟩:=oD (ty:=38) (o:=61) (k:=4) (a 10 _ U);obtain⟨q,r⟩:=zuq i (by simp[b]);obtain⟨u11,s,t⟩:=nY (cs:=l) 65;obtain⟨u,rfl,w⟩:=ki (ty:=22) (o:=65) (a 11 _ U) (by omega) hU underlying22 s;obtain⟨u12,x,y⟩:=nY (cs:=l) 66;obtain⟨z,rfl,B⟩:=ki (ty:=22) (o:=66) (a 12 _ U) (by omega) hU underlying22 x;obtain⟨u13,E,F⟩:=nY (cs:=l) 67;obtain⟨I,rfl⟩:=nE (ty:=4) (o:=67) (a 13 _ U) (by omega) hB underlying4 E;obtain⟨u14,L,N⟩:=nY (cs:=l) 68;obtain⟨P,rfl⟩:=nE (ty:=4) (o:=68) (a 14 _ U) (by omega) hB underlying4 L
 obtain⟨y15,g15⟩:=oD (ty:=39) (o:=69) (k:=2) (a 15 _ U);obtain⟨m15,R,T,V,X⟩:=zur g15 (by simp[b]);obtain⟨u16,Y,Z⟩:=nY (cs:=l) 71;obtain⟨m16,rfl⟩:=nE (ty:=4) (o:=71) (a 16 _ U) (by omega) hB underlying4 Y;obtain⟨u17,r17,e17⟩:=nY (cs:=l) 72;obtain⟨m17,rfl,w17⟩:=ki (ty:=3) (o:=72) (a 17 _ U) (by omega) e underlying3 r17;obtain⟨u18,r18,e18⟩:=nY (cs:=l) 73;obtain⟨m18,rfl,w18⟩:=ki (ty:=3) (o:=73) (a 18 _ U) (by omega) e underlying3 r18;obtain⟨u19,r19,e19⟩:=nY (cs:=l) 74;obtain⟨m19,rfl,w19⟩:=ki (ty:=3) (o:=74) (a 19 _ U) (by omega) e underlying3 r19;have hL:l=(l.drop 0).take 15++((l.drop 15).take 15++((l.drop 30).take 1++((l.drop 31).take 1++((l.drop 32).take 1++((l.drop 33).take 1++((l.drop 34).take 1++((l.drop 35).take 6++((l.drop 41).take 4++((l.drop 45).take 16++((l.drop 61).take 4++((l.drop 65).take 1++((l.drop 66).take 1++((l.drop 67).take 1++((l.drop 68).take 1++((l.drop 69).take 2++((l.drop 71).take 1++((l.drop 72).take 1++((l.drop 73).take 1++((l.drop 74).take 1))))))))))))))))))) :=
  List.drop_zero.symm.trans (mj (n:=0) (m:=15) U (mj (n:=15) (m:=30) U (mj (n:=30) (m:=31) U (mj (n:=31) (m:=32) U (mj (n:=32) (m:=33) U (mj (n:=33) (m:=34) U (mj (n:=34) (m:=35) U (mj (n:=35) (m:=41) U (mj (n:=41) (m:=45) U (mj (n:=45) (m:=61) U (mj (n:=61) (m:=65) U (mj (n:=65) (m:=66) U (mj (n:=66) (m:=67) U (mj (n:=67) (m:=68) U (mj (n:=68) (m:=69) U (mj (n:=69) (m:=71) U (mj (n:=71) (m:=72) U (mj (n:=72) (m:=73) U (mj (n:=73) (m:=74) U (zr9 (by omega)))))))))))))))))))))
 rw[e0,e1,e2,e3,e4,e5,e6,e7,e8,e9,r,t,y,F,N,T,Z,e17,e18,e19] at hL;refine⟨⟨m0,m1,m2,m3,m4,m5,m6,m7,n7,m8,m9,q,u,z,I,P,m15,R,m16,m17,m18,m19⟩,⟨u2,u3,u4,u5,u6⟩,by rw[hL];rfl,⟨k0,k1,k7,q7,k8,q8,k9,cE w,cE B,V,X⟩,λj hj=>?_,λj hj=>?_⟩
 ·rcases five hj with rfl|rfl|rfl|rfl|rfl
  ·exact k2
  ·exact k3
  ·exact k4
  ·exact k5
  ·exact k6
 ·rcases five hj with rfl|rfl|rfl|rfl|rfl
  ·exact q2
  ·exact q3
  ·exact q4
  ·exact q5
  ·exact q6
theorem zwQ{H:Type}{enc:TypeId × Value->H}{W:World}{v:Value}{x:DataW H × List MemPlace}{fuel:Nat}(f:DataW.trod enc prog W 0 (λ_=>true) true fuel 26 [v]=some x)(g:∀ n∈x.1.weights prog 26,n<=reachBytes):∃ a k c,v=.slice a k c/\k<=reachBytes:=by
 have c1:Tryz.prog.cellsOf 5=1:=by kernel_rfl
 have b1:Tryz.prog.bytesOf 5=1:=by kernel_rfl
 rcases open_ints underlying26 underlying5 c1 f with⟨hc,_⟩|⟨h,b,d,zs,hc,_,i,o,j,l,e,m⟩
 ·exact⟨none,0,0,by simpa using hc,aU _⟩
 ·refine⟨some h,b,d,by simpa using hc,?_⟩
  simp only[dL] at j;have:=g (((lits (H:=H) .u8 (zs.take b)).length+(lits (H:=H) .u8 (zs.drop b)).length)*Tryz.prog.bytesOf 5) (by rw[l];simp[DataW.weights,underlying26]);simp only[lits,ba,b1,bu,dh] at this;omega
theorem zj7{H:Type}{enc:TypeId × Value->H}{W:World}{M:Mach}{S:Sl}{d:DataW H}{p:List MemPlace}(h:DataW.Trod enc prog W 0 (λ_=>true) true 41 (.agg (D M S).toArray) d p)(B:∀ n∈d.weights prog 41,n<=reachBytes)(E:S.lens M):∀ j,j<5->(M.byt j).length<=140737488355328:=by
 obtain⟨fuel,s⟩:=h;have F:DataW.trod enc prog W 0 (λ_=>true) true fuel 41 (D M S)=some (d,p):=s;obtain⟨xs,m,_,x,_,o,b⟩:=cG underlying41 F;have N:xs.length=20:=o;simp only[dD] at x;have I:Tryz.prog.cellsOf 26=1:=by kernel_rfl
 have P:=reachBytes_lt;have key:∀(j:Nat) (i:Nat) (hi:i<20),(DataW.trod enc prog W 0 (λ_=>true) true m 26 (((D M S).drop (30+j)).take (Tryz.prog.cellsOf 26))=xs[i]?)->(∀(y:DataW H × List MemPlace),xs[i]?=some y->∀ n∈y.1.weights prog 26,n∈d.weights prog 41)->j<5->(M.byt j).length<=140737488355328:=λj i hi g q l=>by
  have u:=zio M S j l;have L:((D M S).drop (30+j)).take 1=[S.get j]:=by rw[kg,jz,u];rfl
  rw[I,L,au (by omega)] at g;obtain⟨a,k,c,e,R⟩:=zwQ g (λn v=>B n (q _ (au (by omega)) n v));obtain⟨T,V,z⟩:=E j l;rw[e] at z;simp only[fd] at z;omega
 have r:∀(i:Nat) (y:DataW H × List MemPlace),xs[i]?=some y->(i=2 \/ i=3 \/ i=4 \/ i=5 \/ i=6)->∀ n∈y.1.weights prog 26,n∈d.weights prog 41:=λi y f hi n v=>by
  rw[x.1];simp only[DataW.weights,underlying41];have w:(xs.map (·.1))[i]?=some y.1:=by rw[aX,f];rfl
  rcases hi with rfl|rfl|rfl|rfl|rfl
  all_goals exact DataW.weights_mem_each (t:=26) U w n v
 intro j l;rcases five l with rfl|rfl|rfl|rfl|rfl
 ·exact key 0 2 (by omega) (b 2 _ U) (λy f=>r 2 y f (by omega)) l
 ·exact key 1 3 (by omega) (b 3 _ U) (λy f=>r 3 y f (by omega)) l
 ·exact key 2 4 (by omega) (b 4 _ U) (λy f=>r 4 y f (by omega)) l
 ·exact key 3 5 (by omega) (b 5 _ U) (λy f=>r 5 y f (by omega)) l
 ·exact key 4 6 (by omega) (b 6 _ U) (λy f=>r 6 y f (by omega)) l
end Go.Proofs.YthghjlinhokimaaGreatDoor
