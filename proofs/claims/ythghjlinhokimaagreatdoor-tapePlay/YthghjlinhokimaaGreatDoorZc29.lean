/-
  Parts of a proof, joined.
-/
import Derived.Test.YthghjlinhokimaaGreatDoorZcA
import Derived.Test.YthghjlinhokimaaGreatDoorZc25
set_option linter.all false
set_option maxRecDepth 100000
set_option maxHeartbeats 3200000
namespace Go.Proofs.YthghjlinhokimaaGreatDoor
open Go.ChangeShapes Go.WideShapes Go.ChangeAt Go.RowKit Go.Proofs.Tryz
def dN:Nat->Code->Code
 | 0,.seq a _=>a
 | 1,.seq _ b=>b
 | 2,.block _ c=>c
 | 3,.loop c=>c
 | 4,.cond _ a _=>a
 | 5,.cond _ _ b=>b
 | _,c=>c
def jc:Nat->Code->Code
 | 0,c=>c
 | n+1,c=>jc n (dN 1 c)
noncomputable def iL : Code := Tryz.f73.body.getD .skip
def qs(a:Act)(i:Nat):Value:=a.tmps.getD i undef
theorem tU(a:Act)(b:a.tmps.size=301)(c:a.defers=[]):∃ f:Nat->Value,(∀ i,qs a i=f i)/\a={ tmps:=#[f 0,f 1,f 2,f 3,f 4,f 5,f 6,f 7,f 8,f 9,f 10,f 11,f 12,f 13,f 14,f 15,f 16,f 17,f 18,f 19,f 20,f 21,f 22,f 23,f 24,f 25,f 26,f 27,f 28,f 29,f 30,f 31,f 32,f 33,f 34,f 35,f 36,f 37,f 38,f 39,f 40,f 41,f 42,f 43,f 44,f 45,f 46,f 47,f 48,f 49,f 50,f 51,f 52,f 53,f 54,f 55,f 56,f 57,f 58,f 59,f 60,f 61,f 62,f 63,f 64,f 65,f 66,f 67,f 68,f 69,f 70,f 71,f 72,f 73,f 74,f 75,f 76,f 77,f 78,f 79,f 80,f 81,f 82,f 83,f 84,f 85,f 86,f 87,f 88,f 89,f 90,f 91,f 92,f 93,f 94,f 95,f 96,f 97,f 98,f 99,f 100,f 101,f 102,f 103,f 104,f 105,f 106,f 107,f 108,f 109,f 110,f 111,f 112,f 113,f 114,f 115,f 116,f 117,f 118,f 119,f 120,f 121,f 122,f 123,f 124,f 125,f 126,f 127,f 128,f 129,f 130,f 131,f 132,f 133,f 134,f 135,f 136,f 137,f 138,f 139,f 140,f 141,f 142,f 143,f 144,f 145,f 146,f 147,f 148,f 149,f 150,f 151,f 152,f 153,f 154,f 155,f 156,f 157,f 158,f 159,f 160,f 161,f 162,f 163,f 164,f 165,f 166,f 167,f 168,f 169,f 170,f 171,f 172,f 173,f 174,f 175,f 176,f 177,f 178,f 179,f 180,f 181,f 182,f 183,f 184,f 185,f 186,f 187,f 188,f 189,f 190,f 191,f 192,f 193,f 194,f 195,f 196,f 197,f 198,f 199,f 200,f 201,f 202,f 203,f 204,f 205,f 206,f 207,f 208,f 209,f 210,f 211,f 212,f 213,f 214,f 215,f 216,f 217,f 218,f 219,f 220,f 221,f 222,f 223,f 224,f 225,f 226,f 227,f 228,f 229,f 230,f 231,f 232,f 233,f 234,f 235,f 236,f 237,f 238,f 239,f 240,f 241,f 242,f 243,f 244,f 245,f 246,f 247,f 248,f 249,f 250,f 251,f 252,f 253,f 254,f 255,f 256,f 257,f 258,f 259,f 260,f 261,f 262,f 263,f 264,f 265,f 266,f 267,f 268,f 269,f 270,f 271,f 272,f 273,f 274,f 275,f 276,f 277,f 278,f 279,f 280,f 281,f 282,f 283,f 284,f 285,f 286,f 287,f 288,f 289,f 290,f 291,f 292,f 293,f 294,f 295,f 296,f 297,f 298,f 299,f 300],defers:=[] }:=by
 refine⟨qs a,λ_=>U,?_⟩;obtain⟨t,d⟩:=a;simp only at b c;subst c;have e:t=((List.range 301).map (λi=>t.getD i undef)).toArray:=by
  apply Array.ext
  ·simp[b]
  ·intro i h1 h2
   simp[Array.getD,h1]
 exact congrArg (λt=>({ tmps:=t,defers:=[] }:Act)) (e.trans (by rfl))
structure Qa (a : Act) (p bo kb : Nat) : Prop where
 sz:a.tmps.size=301
 df:a.defers=[]
 s3:qs a 3=pb p
 s4:qs a 4=pb (p+1)
 s6:qs a 6=pb (p+1+1)
 s8:qs a 8=pb (p+1+1+1)
 s9:qs a 9=fv 139 #[pb (p+1),pb p]
 s10:qs a 10=fv 140 #[pb (p+1+1+1),pb p,pb (p+1)]
 s12:qs a 12=pb bo
 s14:qs a 14=pb kb
abbrev jg(k:Nat)(d e n v:Int):Array Value:=#[.int .i64 k,.int .i64 d,.int .i64 e,.int .i64 n,.int .i64 v]
abbrev nn(k:Nat):Array Value:=#[.string (K.name k),.string (K.has k),.int .i64 (K.cyc k)]
abbrev KL(bo kb k:Nat)(d e n v:Int):List (Nat × Array Value × TypeId):=[(kb,nn k,231),(bo,jg k d e n v,191)]
def RP(q:Qe)(w:World)(z:C.St Bst)(e:Ending)(w':World):Prop:=e=.returned (.tuple #[gx z.c,.int .i64 z.n])/\q.I w' z.s/\Gw q.F w w'/\z.c.ok
def oR(q:Qe)(w:World)(k d e1:Nat)(n v:Int)(x z:C.St Bst):Prop :=
 ∀(bo kb:Nat) (a:Act) (W:World),Qa a w.heap.size bo kb->SW q (KL bo kb k d e1 n v) w W x->Code.wp prog (jc 11 iL) (bodyPost prog Tryz.f73 (RP q w z)) a W
theorem vM:191≠104:=by decide
theorem sJ{a b:Nat}(h:a+3<b):a<b:=by omega
section
variable {q : Qe} {L : List (Nat × Array Value × TypeId)} {w W w4 : World} {x : C.St Bst} {bo kb k : Nat} {d e n v : Int}
theorem SW.start(R:QS q)(c:C.Cpu)(hc:c.ok)(w:World)(s:Bst)(a:q.I w s)(n:Int):SW q [] w ((((w.alloc (.cells #[.int .u16 (c.r 0),.int .u16 (c.r 1),.int .u16 (c.r 2),.int .u16 (c.r 3),.int .u16 (c.r 4),.int .u16 (c.r 5),.int .u16 (c.r 6),.int .u16 (c.r 7),.int .u16 c.PC,.bool c.Z,.bool c.N,.bool c.C,.bool c.V,.bool c.May,.bool c.Waits] 25)).alloc (.cells #[fv q.ng q.cg,fv q.np q.cp] 123)).alloc (.cells #[.int .u16 0,.int .u16 0,.int .u16 0,.int .u16 0,.int .u16 0,.int .u16 0,.int .u16 0,.int .u16 0,.int .u16 0,.bool false,.bool false,.bool false,.bool false,.bool false,.bool false] 25)).alloc (.cells #[qq w.heap.size (w.heap.size+1)] 227)) ⟨c,s,n⟩:=by
 have hb:Below w.heap.size w ((((w.alloc (.cells #[.int .u16 (c.r 0),.int .u16 (c.r 1),.int .u16 (c.r 2),.int .u16 (c.r 3),.int .u16 (c.r 4),.int .u16 (c.r 5),.int .u16 (c.r 6),.int .u16 (c.r 7),.int .u16 c.PC,.bool c.Z,.bool c.N,.bool c.C,.bool c.V,.bool c.May,.bool c.Waits] 25)).alloc (.cells #[fv q.ng q.cg,fv q.np q.cp] 123)).alloc (.cells #[.int .u16 0,.int .u16 0,.int .u16 0,.int .u16 0,.int .u16 0,.int .u16 0,.int .u16 0,.int .u16 0,.int .u16 0,.bool false,.bool false,.bool false,.bool false,.bool false,.bool false] 25)).alloc (.cells #[qq w.heap.size (w.heap.size+1)] 227)):=stA (stA (stA (stA (J w) _) _) _) _;have new:∀(W:World) (o:Obj) (b:Nat),b=W.heap.size->(W.alloc o).heap[b]?=some o:=λW o b h=>by subst h;exact aJ W o
 refine⟨R.kept a hb,Gw.of_below (R.bg a) hb,R.big a,?_,?_,?_,new _ _ _ (by simp),(λy d=>by cases d),hc⟩
 ·rw[zri hc.1]
  exact(bO _ _ (by simp <;> omega)).trans ((bO _ _ (by simp <;> omega)).trans ((bO _ _ (by simp)).trans (aJ w _)))
 ·exact(bO _ _ (by simp <;> omega)).trans ((bO _ _ (by simp)).trans (new _ _ _ (by simp)))
 ·refine⟨_,?_,(bO _ _ (by simp)).trans (new _ _ _ (by simp))⟩
  rfl
theorem SW.there(h:SW q L w W x):W.there (w.heap.size+2) 0 15:=by
 obtain⟨cs,b,a⟩:=h.r;intro j c;refine⟨?_,Lib.frozen_of_heap a _⟩;rw[Lib.cell_of_heap a,fm (by omega)];rfl
theorem SW.fin(h:SW q L w W x)(R:QS q)(cs:List Value)(b:cs.length=15):q.I (W.setCells (w.heap.size+2) 0 cs) x.s/\Gw q.F w (W.setCells (w.heap.size+2) 0 cs)/\(W.setCells (w.heap.size+2) 0 cs).rangeAt (w.heap.size+2) 0 cs:=by
 obtain⟨c0,i,c⟩:=h.r;have d:=h.N;have key:∀(vs:List Value) (o:Nat) (X:World) (c0:Array Value),q.I X x.s->Gw q.F w X->X.heap[w.heap.size+2]?=some (.cells c0 25 (0,0))->q.I (X.setCells (w.heap.size+2) o vs) x.s/\Gw q.F w (X.setCells (w.heap.size+2) o vs):=by
  intro vs;induction vs with
  | nil=>exact λo X c0 h1 h2 _=>⟨h1,h2⟩
  | cons v vs f =>
   intro o X c0 h1 h2 h3;refine f (o+1) _ _ (R.keep h1 (by rw[pQ];exact ak _) (λk a=>bL _ _ _ _ (λe=>?_))) (h2.own (ax R.B d) (by omega) o v) (py h3 v);have g:k=w.heap.size+2:=e;rcases a with a|⟨_,_,a⟩
   ·omega
   ·rw[g,h3] at a
    simp only[aP,cP] at a;exact absurd a.2.1 (by decide)
 obtain⟨h1,h2⟩:=key cs 0 W c0 h.inv h.mv c;exact⟨h1,h2,World.rangeAt_setCells_same W (w.heap.size+2) 0 cs (by rw[b];exact h.there)⟩
theorem SW.kd(h:SW q (KL bo kb k d e n v) w W x):W.heap[kb]?=some (.cells (nn k) 231 (0,0))/\w.heap.size+4<=kb:=⟨(h.l _ bl).2.2,(h.l _ bl).1⟩
theorem SW.od(h:SW q (KL bo kb k d e n v) w W x):W.heap[bo]?=some (.cells (jg k d e n v) 191 (0,0))/\w.heap.size+4<=bo:=⟨(h.l _ (bq _ bl)).2.2,(h.l _ (bq _ bl)).1⟩
theorem SW.kcells(h:SW q (KL bo kb k d e n v) w W x):W.cell? ⟨bo,0,none⟩=some (.int .i64 k)/\W.cell? ⟨bo,1,none⟩=some (.int .i64 d)/\W.cell? ⟨bo,2,none⟩=some (.int .i64 e)/\W.cell? ⟨bo,3,none⟩=some (.int .i64 n)/\W.cell? ⟨bo,4,none⟩=some (.int .i64 v) /\
 W.cell? ⟨kb,0,none⟩=some (.string (K.name k))/\W.cell? ⟨kb,1,none⟩=some (.string (K.has k))/\W.cell? ⟨kb,2,none⟩=some (.int .i64 (K.cyc k))/\bo<W.heap.size/\kb<W.heap.size/\w.heap.size<W.heap.size :=
 ⟨Lib.cell_of_heap h.od.1 0,Lib.cell_of_heap h.od.1 1,Lib.cell_of_heap h.od.1 2,Lib.cell_of_heap h.od.1 3,Lib.cell_of_heap h.od.1 4,Lib.cell_of_heap h.kd.1 0,Lib.cell_of_heap h.kd.1 1,Lib.cell_of_heap h.kd.1 2,(ay.1 h.od.1).1,(ay.1 h.kd.1).1,by have:=h.lt;omega⟩
theorem SW.meetA(h:SW q [(bo,jg k d e n v,191)] w W x)(R:QS q)(hb:Below W.drew.heap.size W.drew w4):SW q (KL bo w4.heap.size k d e n v) w (w4.alloc (.cells (nn k) 231)) x:=by
 have a:Below W.heap.size W w4:=bn (J W).drew hb;have:=h.lt;have:=a.size;exact(h.kept R (stA a _)).also (by omega) (by decide) (aJ w4 _)
theorem SW.meetB(h:SW q [(bo,jg k d e n v,191)] w W x)(R:QS q){z0 f z2:Value}{kb:Nat}(g:kb=W.heap.size)
 (hb:Below (W.alloc (.cells #[z0,f,z2] 231)).drew.heap.size (W.alloc (.cells #[z0,f,z2] 231)).drew w4) :
 SW q (KL bo kb k d e n v) w (((w4.setCell ⟨kb,0,none⟩ (.string (K.name k))).setCell ⟨kb,1,none⟩ (.string (K.has k))).setCell ⟨kb,2,none⟩ (.int .i64 (K.cyc k))) x:=by
 subst g;have a:Below W.heap.size W w4:=bn (stA (J W) _).drew hb;have:=h.lt;have m:bo<W.heap.size:=(ay.1 (h.l _ bl).2.2).1;have c:∀ y∈[(bo,jg k d e n v,191)],y.1≠W.heap.size:=λy i=>by
  obtain rfl:=ch.1 i;show bo≠W.heap.size;omega
 have j:=(h.kept R a).also (b:=W.heap.size) (by omega) (by decide) ((hb.block W.heap.size (by simp)).trans (aJ W _));exact((j.boxed R c 0 (.string (K.name k))).boxed R c 1 (.string (K.has k))).boxed R c 2 (.int .i64 (K.cyc k))
theorem wU(R:QS q)(c:C.Cpu)(hc:c.ok)(w:World)(s s1:Bst)(a:Int)(hI:q.I w s)(hw:c.Waits=false)(r:Bool)(P:r=true->c.May=false)
 (h1:∀ W,q.I W s->Calls prog 86 #[q.v,.int .u16 c.PC] W λe w'=>e=.returned (.int .u16 a)/\q.I w' s1/\Gw q.F W w')
 (k d e1:Nat) (n:Int) (hk:k<32)
 (h2:∀ W,Facts W->Calls prog 101 #[.int .u16 a,.int .u16 0] W λe w'=>e=.returned (.tuple #[.agg #[.int .i64 k,.int .i64 d,.int .i64 e1,.int .i64 n,.int .i64 0],.int .i64 1])/\Below W.heap.size W w')
 (z:C.St Bst) (T:oR q w k d e1 n 0 ⟨{ c with PC:=(c.PC+2)%65536 },s1,0⟩ z) :
 Calls prog 73 #[gx c,q.v,.bool r] w (RP q w z):=by
 have x:=SW.start R c hc w s hI 0;have hpc:=hc.2.2;have hw8:IntKind.u16.wrap (c.PC+2)=(c.PC+2)%65536:=eh _;generalize E:({ c with PC:=(c.PC+2)%65536 }:C.Cpu)=cc at T;have H:=hid E;unfold gx Qe.v;rw[hw] at x ⊢;have L:=hid x;have b:=hid R;have H1:=hid h1;have H2:=hid h2;have M:=hid T;have hki:(0:Int)<=k:=by omega
 have hki2:(k:Int)<32:=by omega
 clear hI R x h1 h2 hw E T;cases r;rotate_left 1
 ·rw[P U] at L ⊢
  clear P
  skip
  go_enter func73,ntmps73;go_upto_region 14 with(first
   | (go_at_call 86;refine(H1.out _ L.out.inv).mono ?_;rintro e w1 ⟨rfl,i,j⟩;have S1:=hid (L.out.moved b.out i j);clear i j)
   | (go_at_call 101;refine(H2.out _ (b.out.facts S1.out.inv)).mono ?_;rintro e w2 ⟨rfl,l⟩;have t:=hid (S1.out.kept b.out l);obtain⟨c8,_⟩:=t.out.cells;have z2:=t.out.lt;have V:=sJ z2;have f2:=t.out.fz;clear l))
  have u:Hid (SW q [(w2.heap.size,jg k d e1 n 0,191)] w ((w2.setCell ⟨w.heap.size,8,none⟩ (.int .u16 ((c.PC+2)%65536))).alloc (.cells #[.int .i64 k,.int .i64 d,.int .i64 e1,.int .i64 n,.int .i64 0] 191)) ⟨cc,s1,0⟩):=by
   have h:=t.out.putPC b.out ((c.PC+2)%65536) (by omega) (by omega);rw[<- H.out];exact(h.kept b.out (stA (J _) _)).also (by omega) (by decide) (by rw[<- pQ w2 ⟨w.heap.size,8,none⟩ (.int .u16 ((c.PC+2)%65536))];exact aJ _ _)
  go_cut [14] (λp X=>∃ kb,p=.pointer (some ⟨kb,0,none⟩)/\SW q (KL w2.heap.size kb k d e1 n 0) w X ⟨cc,s1,0⟩)
  case first =>
   have N:((w2.setCell ⟨w.heap.size,8,none⟩ (.int .u16 ((c.PC+2)%65536))).alloc (.cells #[.int .i64 k,.int .i64 d,.int .i64 e1,.int .i64 n,.int .i64 0] 191)).cell? ⟨w2.heap.size,0,none⟩=some (.int .i64 k):=jb _ _ _ _ (by simp);have y:w2.heap.size<((w2.setCell ⟨w.heap.size,8,none⟩ (.int .u16 ((c.PC+2)%65536))).alloc (.cells #[.int .i64 k,.int .i64 d,.int .i64 e1,.int .i64 n,.int .i64 0] 191)).heap.size:=by simp
   go_region_with (go_at_call 142;refine(tQ _ ?_).mono ?_;(first|exact b.out.facts (b.out.same u.out.inv U)|exact b.out.facts (b.out.same (b.out.kept u.out.inv (stA (J _) _)) U));rintro e w4 ⟨g,Y,rfl,m,Z,hg2,f⟩;obtain⟨t0,t1,t2⟩:=m k hk;clear m;obtain⟨B,hfX⟩:=bQ f;have o4:w4.cell? ⟨w2.heap.size,0,none⟩=some (.int .i64 k):=(B _ _ (by simp <;> omega)).trans (by first|exact N|exact(aK _ _ _ y).trans N);have z4:w2.heap.size<w4.heap.size:=ap (by simp <;> omega) f.size;have o:=hid f;clear f)
   all_goals (go_wp2_with fail;go_meet)
   all_goals first
    | exact⟨_,U,u.out.meetA b.out o.out⟩
    | exact⟨_,U,u.out.meetB b.out (by simp) o.out⟩
  case rest =>
   obtain⟨kb,rfl,hK⟩:=hcut;refine(by assumption:∀(a:Act) (w:World),Code.wp _ _ _ a w->_) _ _ ?_;exact M.out _ _ _ _ ⟨U,U,U,U,U,U,U,U,U,U⟩ hK
 ·clear P
  skip
  go_enter func73,ntmps73;go_upto_region 14 with(first
   | (go_at_call 86;refine(H1.out _ L.out.inv).mono ?_;rintro e w1 ⟨rfl,i,j⟩;have S1:=hid (L.out.moved b.out i j);clear i j)
   | (go_at_call 101;refine(H2.out _ (b.out.facts S1.out.inv)).mono ?_;rintro e w2 ⟨rfl,l⟩;have t:=hid (S1.out.kept b.out l);obtain⟨c8,_⟩:=t.out.cells;have z2:=t.out.lt;have V:=sJ z2;have f2:=t.out.fz;clear l))
  have u:Hid (SW q [(w2.heap.size,jg k d e1 n 0,191)] w ((w2.setCell ⟨w.heap.size,8,none⟩ (.int .u16 ((c.PC+2)%65536))).alloc (.cells #[.int .i64 k,.int .i64 d,.int .i64 e1,.int .i64 n,.int .i64 0] 191)) ⟨cc,s1,0⟩):=by
   have h:=t.out.putPC b.out ((c.PC+2)%65536) (by omega) (by omega);rw[<- H.out];exact(h.kept b.out (stA (J _) _)).also (by omega) (by decide) (by rw[<- pQ w2 ⟨w.heap.size,8,none⟩ (.int .u16 ((c.PC+2)%65536))];exact aJ _ _)
  go_cut [14] (λp X=>∃ kb,p=.pointer (some ⟨kb,0,none⟩)/\SW q (KL w2.heap.size kb k d e1 n 0) w X ⟨cc,s1,0⟩)
  case first =>
   have N:((w2.setCell ⟨w.heap.size,8,none⟩ (.int .u16 ((c.PC+2)%65536))).alloc (.cells #[.int .i64 k,.int .i64 d,.int .i64 e1,.int .i64 n,.int .i64 0] 191)).cell? ⟨w2.heap.size,0,none⟩=some (.int .i64 k):=jb _ _ _ _ (by simp);have y:w2.heap.size<((w2.setCell ⟨w.heap.size,8,none⟩ (.int .u16 ((c.PC+2)%65536))).alloc (.cells #[.int .i64 k,.int .i64 d,.int .i64 e1,.int .i64 n,.int .i64 0] 191)).heap.size:=by simp
   go_region_with (go_at_call 142;refine(tQ _ ?_).mono ?_;(first|exact b.out.facts (b.out.same u.out.inv U)|exact b.out.facts (b.out.same (b.out.kept u.out.inv (stA (J _) _)) U));rintro e w4 ⟨g,Y,rfl,m,Z,hg2,f⟩;obtain⟨t0,t1,t2⟩:=m k hk;clear m;obtain⟨B,hfX⟩:=bQ f;have o4:w4.cell? ⟨w2.heap.size,0,none⟩=some (.int .i64 k):=(B _ _ (by simp <;> omega)).trans (by first|exact N|exact(aK _ _ _ y).trans N);have z4:w2.heap.size<w4.heap.size:=ap (by simp <;> omega) f.size;have o:=hid f;clear f)
   all_goals (go_wp2_with fail;go_meet)
   all_goals first
    | exact⟨_,U,u.out.meetA b.out o.out⟩
    | exact⟨_,U,u.out.meetB b.out (by simp) o.out⟩
  case rest =>
   obtain⟨kb,rfl,hK⟩:=hcut;refine(by assumption:∀(a:Act) (w:World),Code.wp _ _ _ a w->_) _ _ ?_;exact M.out _ _ _ _ ⟨U,U,U,U,U,U,U,U,U,U⟩ hK
end
end Go.Proofs.YthghjlinhokimaaGreatDoor
