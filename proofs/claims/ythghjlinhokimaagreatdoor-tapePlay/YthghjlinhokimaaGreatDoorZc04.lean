/-
  Parts of a proof, joined.
-/
import Derived.Test.YthghjlinhokimaaGreatDoorZcA
import Derived.Test.YthghjlinhokimaaGreatDoorZc01
import Derived.Test.YthghjlinhokimaaGreatDoorZc00
import Derived.Test.YthghjlinhokimaaGreatDoorZc02
import Derived.Lib.SmallJoins
import Derived.WalkSpells
import Derived.Laws.EntriesVeiled
import Derived.Test.YthghjlinhokimaaGreatDoorZc03
import Derived.Laws.AppendOwnNone
import Derived.Deep.AppendLies
set_option linter.all false
set_option maxRecDepth 100000
set_option maxHeartbeats 1600000
namespace Go.Proofs.YthghjlinhokimaaGreatDoor.O
def hasC(k:Nat)(c:UInt8):Bool:=(K.row k).2.1.contains c
def isOp(op:Int):Bool:=decide (0<=op) && decide (op<=31) && (op != 30)
def first(op d s n:Int):Int:=op*2048+d*256+s*32+(n+32)%32
def rOp(a:Int):Int:=if a/2048=30 then 31 else a/2048
def rk(a:Int):Nat:=(rOp a).toNat
def rD(a:Int):Int:=if hasC (rk a) 100 then a/256%8 else 0
def rS(a:Int):Int:=if hasC (rk a) 115 then a/32%8 else 0
def nOf(k:Nat)(a:Int):Int:=if k=12 \/ k=13 then a%16 else if 16<=a%32 then a%32-32 else a%32
def rN(a:Int):Int:=if hasC (rk a) 110 then nOf (rk a) a else 0
def rW(a b:Int):Int:=if hasC (rk a) 119 then b else 0
def rLen(a:Int):Int:=if hasC (rk a) 119 then 2 else 1
def mask(k:Nat):Int:=(if hasC k 100 then 1 else 0)+(if hasC k 115 then 2 else 0)+(if hasC k 110 then (if k=12 \/ k=13 then 16 else 4) else 0)+(if hasC k 119 then 8 else 0)
theorem mask_cases:∀ k,k<32->mask k∈([0,1,2,3,5,7,8,9,17]:List Int):=by decide +kernel
def nameS(k:Nat):ByteArray:=if k=30 then ⟨#[]⟩ else K.name k
theorem nameS_empty:∀ k,k<32->(nameS k).toList.isEmpty=(k == 30):=by decide +kernel
theorem mask_or(k:Nat)(a:k<32):mask k=0 \/ mask k=1 \/ mask k=2 \/ mask k=3 \/ mask k=5 \/ mask k=7 \/ mask k=8 \/ mask k=9 \/ mask k=17:=by simpa using mask_cases k a
theorem isOp_iff(op:Int):isOp op=true ↔ 0<=op/\op<=31/\op≠30:=by
 unfold isOp;simp only[dZ,bC,jh,ne_eq,and_assoc]
/-! ### the first word, laid in bit by bit -/
theorem low_5(a:Int):M.low a 5=if 16<=a%32 then a%32-32 else a%32:=by
 unfold M.low;simp only[show (5:Int).toNat=5 from U,Int.reducePow];split <;> split <;> omega
/-! ### what was written is read -/
end Go.Proofs.YthghjlinhokimaaGreatDoor.O
namespace Go.Proofs.YthghjlinhokimaaGreatDoor
open Go.ChangeShapes Go.WideShapes Go.ChangeAt Go.RowKit Go.Proofs.Tryz
def aZ(w:World):Prop:=∀ k,k<32->w.cell? ⟨2,k*3,none⟩=some (.string (O.nameS k))/\w.cell? ⟨2,k*3+1,none⟩=some (.int .i64 (K.cyc k))/\w.cell? ⟨2,k*3+2,none⟩=some (.int .i64 (O.mask k))
theorem aZ.lt{w:World}(h:aZ w):2<w.heap.size:=aG w _ (h 0 (by omega)).1
theorem aZ.kept{w w':World}(h:aZ w)(hb:Below w.heap.size w w'):aZ w':=λk b=>by
 have a:=h.lt;obtain⟨h1,h2,h3⟩:=h k b;exact⟨(hb.cell a).trans h1,(hb.cell a).trans h2,(hb.cell a).trans h3⟩
structure Facts (w : World) : Prop where
 tab:Lib.TabIs prog w "strings.asciiSpace" .u8 Lib.asciiSpaceTab
 len:∃ m,w.cell? ⟨0,0,none⟩=some (.int .i64 m)
 shapes:aZ w
theorem zkT:Tryz.prog.globalNamed "strings.asciiSpace" = some 1:=by kernel_rfl
theorem Facts.kept{w w':World}(h:Facts w)(hb:Below w.heap.size w w'):Facts w':=by
 obtain⟨t,⟨m,a⟩,s⟩:=h;exact⟨Joins.tab_stays zkT t hb (ak _),⟨m,(hb.cell (aG w _ a)).trans a⟩,s.kept hb⟩
/-! ### arguments: each reads behind the call as it did -/
theorem zdP{H:Type}{enc:TypeId × Value->H}{P:Program}(k:laidOutB P=true){W l:World}(hb:Below W.heap.size W l):∀ {e:List TypeId} {vs:List Value} {f:List (DataW H)} {ps:List MemPlace},(∀ t∈e,P.readableRec t=true/\t<P.types.size)->DataW.TrodAll enc P W 0 (λ_=>true) true e vs f ps->(∀ x∈ps,x.block<W.heap.size) ->
  DataW.TrodAll enc P l 0 (λb=>decide (b<W.heap.size)) true e vs f ps
 | [],vs,f,ps,_,h,_=>by
  obtain⟨rfl,rfl,rfl⟩:=jU h;exact trodAll_mk0
 | t::e,vs,f,ps,g,h,c=>by
  obtain⟨v,vs',d,m,p,q,rfl,rfl,rfl,n,a⟩:=cM h;exact⟨p,q,Below.trod k (g t (by simp)).1 (g t (by simp)).2 n hb (λx i=>c x (by simp[i])),zdP k hb (λo j=>g o (by simp[j])) a (λx i=>c x (by simp[i])),U⟩
theorem zbr{H:Type}{enc:TypeId × Value->H}{P:Program}(f:laidOutB P=true){W d:World}(hb:Below W.heap.size W d){a:List TypeId}{vs:List Value}{e:List (DataW H)}{ps:List MemPlace}
 (g:a.all (λt=>P.readableRec t && decide (t<P.types.size))=true) (h:DataW.TrodAll enc P W 0 (λ_=>true) true a vs e ps) (c:∀ x∈ps,x.block<W.heap.size) :
 DataW.TrodAll enc P d 0 (λb=>decide (b<W.heap.size)) true a vs e ps :=
 zdP f hb (λt i=>by have:=bW.1 g t i;simpa using this) h c
theorem below_draws{B:Nat}{a w:World}(h:Below B a w)(n:Nat):Below B a (w.drewN n):=⟨h.os,h.tape,h.output,h.size,h.block⟩
theorem hid{p:Prop}(h:p):Hid p:=h
theorem nG{b b':Bool}(h:b=b'):Ending.returned (.bool b)=.returned (.bool b'):=by rw[h]
theorem bn{W a b:World}(h:Below W.heap.size W a)(hb:Below a.heap.size a b):Below W.heap.size W b:=h.trans (hb.mono h.size)
theorem stA{W a:World}(h:Below W.heap.size W a)(o:Obj):Below W.heap.size W (a.alloc o):=h.alloc h.size o
theorem J(W:World):Below W.heap.size W W:=aW _ _
theorem bQ{W w1:World}(hb:Below W.heap.size W w1):(∀ b o,b<W.heap.size->w1.cell? ⟨b,o,none⟩=W.cell? ⟨b,o,none⟩)/\(∀ b o,b<W.heap.size->w1.frozen? ⟨b,o,none⟩=W.frozen? ⟨b,o,none⟩) :=
 ⟨λb o h=>hb.cell (p:=⟨b,o,none⟩) h,λb o h=>hb.frozen (p:=⟨b,o,none⟩) h⟩
theorem oq(k:Nat)(c:k<32)(a:k≠30)(w:World)(b:aZ w):Calls prog 256 #[.int .i64 k] w λe w'=>e=.returned (.tuple #[.agg #[.string (O.nameS k),.int .i64 (K.cyc k),.int .i64 (O.mask k)],.int .i64 0])/\Below w.heap.size w w':=by
 have d:=b.lt;obtain⟨c0,c1,c2⟩:=b k c;have f:(O.nameS k).toList.isEmpty=false:=(O.nameS_empty k c).trans (by simpa using a);clear b;go_enter func256,ntmps256;go_wp2;exact ao (v:=.tuple #[.agg #[.string (O.nameS k),.int .i64 (K.cyc k),.int .i64 (O.mask k)],.int .i64 0]) (by simp[results,results256,go_sem]) U ⟨U,(aW _ _).alloc (ak _) _⟩
theorem zhL(op:Int)(h:O.isOp op=false)(w:World)(b:aZ w):Calls prog 256 #[.int .i64 op] w λe w'=>e=.returned (.tuple #[.agg #[.string ⟨#[]⟩,.int .i64 0,.int .i64 0],.int .i64 5])/\Below w.heap.size w w':=by
 have f:=b.lt;have d:¬ (0<=op/\op<=31/\op≠30):=λc=>by rw[(O.isOp_iff op).2 c] at h;cases h
 obtain⟨c0,c1,c2⟩:=b 30 (by omega);clear b h;have a:O.nameS 30=⟨#[]⟩:=U;rw[a] at c0;clear a;have hc:op<0 \/ 31<op \/ op=30:=by omega
 clear d;rcases hc with h|h|rfl
 ·go_enter func256,ntmps256
  go_wp2;exact ao (v:=.tuple #[.agg #[.string ⟨#[]⟩,.int .i64 0,.int .i64 0],.int .i64 5]) (by simp[results,results256,go_sem]) U ⟨U,(aW _ _).alloc (ak _) _⟩
 ·have h2:¬ op<0:=by omega
  go_enter func256,ntmps256;go_wp2;exact ao (v:=.tuple #[.agg #[.string ⟨#[]⟩,.int .i64 0,.int .i64 0],.int .i64 5]) (by simp[results,results256,go_sem]) U ⟨U,(aW _ _).alloc (ak _) _⟩
 ·go_enter func256,ntmps256
  go_wp2;exact ao (v:=.tuple #[.agg #[.string ⟨#[]⟩,.int .i64 0,.int .i64 0],.int .i64 5]) (by simp[results,results256,go_sem]) U ⟨U,(aW _ _).alloc (ak _) _⟩
def lenOf(h:Int):Int:=if h/8%2=1 then 2 else 1
theorem nP(a b:Value)(k:Nat)(c:k<32)(w:World):Calls prog 288 #[.agg #[a,b,.int .i64 (O.mask k)]] w λe w'=>e=.returned (.int .i64 (lenOf (O.mask k)))/\Below w.heap.size w w':=by
 rcases O.mask_or k c with h|h|h|h|h|h|h|h|h <;> rw[h]
 all_goals
  clear h;go_enter func288,ntmps288;go_wp2;go_ret;exact⟨U,(aW _ _).alloc (ak _) _⟩
theorem jb(w:World)(cs:Array Value)(t:TypeId)(b:Nat)(h:b=w.heap.size){k:Nat}:(w.alloc (.cells cs t)).cell? ⟨b,k,none⟩=cs[k]?:=by subst h;exact gB ..
theorem lq{w:World}(h:aZ w)(o:Obj):aZ (w.alloc o):=h.kept ((aW _ _).alloc (ak _) _)
theorem zg6(k:Nat)(d:k<32)(b:k≠30)(w:World)(f:aZ w):Calls prog 254 #[.int .i64 k] w λe w'=>e=.returned (.tuple #[.int .i64 (K.cyc k),.int .i64 (lenOf (O.mask k)),.int .i64 0])/\Below w.heap.size w w':=by
 have g:=hid f;clear f;go_enter func254,ntmps254;go_wp2_with (go_at_call 256;refine(oq k d b _ g.out).mono ?_;rintro e w1 ⟨rfl,c⟩)
 go_region_held3 (λw'=>w'.cell? ⟨w1.heap.size,0,none⟩=some (.string (O.nameS k))/\w'.cell? ⟨w1.heap.size,1,none⟩=some (.int .i64 (K.cyc k))/\w'.cell? ⟨w1.heap.size,2,none⟩=some (.int .i64 (O.mask k)))
  (first
    | go_keep
    | (go_split_ands
       refine⟨?_,?_,?_⟩
       ·(rw[a.cell (by simp)];assumption)
       ·(rw[a.cell (by simp)];assumption)
       ·(rw[a.cell (by simp)];assumption)))
  ((go_at_call 288;refine(nP _ _ k d _).mono ?_;rintro e w2 ⟨rfl,a⟩))
 go_wp2
 go_ret3
 exact⟨U,bn (stA c _).drew a⟩
theorem zw2{k l:IntKind}{a c b b':Int}(h:a=c)(h1:b=b'):Ending.returned (.tuple #[.int k a,.int l b])=.returned (.tuple #[.int k c,.int l b']):=by rw[h,h1]
theorem zc5(a n:Int)(w:World)(f:0<=a)(c:a<=65535)(d:1<=n)(b:n<=16):Calls prog 337 #[.int .u16 a,.int .i64 n] w λe w'=>e=.returned (.tuple #[.int .i64 (M.low a n),.int .i64 0])/\w'=w:=by
 go_enter func337,ntmps337;go_wp2
 go_ret2
 exact⟨zw2 (M.low_of a n d b) U,U⟩
theorem pq(x:Int)(h:0<=x)(a:x<=65535):bits .and .u16 x 7=x%8/\bits .and .u16 x 15=x%16 :=
 ⟨by have:=M.and_low x 3 (by omega) h a;simpa using this,by have:=M.and_low x 4 (by omega) h a;simpa using this⟩
theorem j7{w1 w2:World}{n c h a0 a1 a2 a3 a4:Value}{t b:TypeId}(hb:Below ((w1.alloc (.cells #[n,c,h] t)).alloc (.cells #[a0,a1,a2,a3,a4] b)).drew.heap.size ((w1.alloc (.cells #[n,c,h] t)).alloc (.cells #[a0,a1,a2,a3,a4] b)).drew w2):w2.cell? ⟨w1.heap.size,0,none⟩=some n/\w2.cell? ⟨w1.heap.size,1,none⟩=some c/\w2.cell? ⟨w1.heap.size,2,none⟩=some h/\w2.cell? ⟨w1.heap.size+1,0,none⟩=some a0/\w2.cell? ⟨w1.heap.size+1,1,none⟩=some a1 /\
  w2.cell? ⟨w1.heap.size+1,2,none⟩=some a2/\w2.cell? ⟨w1.heap.size+1,3,none⟩=some a3/\w2.cell? ⟨w1.heap.size+1,4,none⟩=some a4:=by
 have e:∀ i,((w1.alloc (.cells #[n,c,h] t)).alloc (.cells #[a0,a1,a2,a3,a4] b)).drew.cell? ⟨w1.heap.size,i,none⟩=#[n,c,h][i]?:=λi =>
  (aK (w1.alloc (.cells #[n,c,h] t)) _ _ (by simp)).trans (jb _ _ _ _ U)
 have a:∀ i,((w1.alloc (.cells #[n,c,h] t)).alloc (.cells #[a0,a1,a2,a3,a4] b)).drew.cell? ⟨w1.heap.size+1,i,none⟩=#[a0,a1,a2,a3,a4][i]?:=λi=>jb (w1.alloc (.cells #[n,c,h] t)) _ _ _ (by simp)
 refine⟨?_,?_,?_,?_,?_,?_,?_,?_⟩
 ·rw[hb.cell (by simp;omega),e];rfl
 ·rw[hb.cell (by simp;omega),e];rfl
 ·rw[hb.cell (by simp;omega),e];rfl
 ·rw[hb.cell (by simp),a];rfl
 ·rw[hb.cell (by simp),a];rfl
 ·rw[hb.cell (by simp),a];rfl
 ·rw[hb.cell (by simp),a];rfl
 ·rw[hb.cell (by simp),a];rfl
theorem mM(w2:World)(b:Nat)(v0 a v2 v3 v4:Value)(p:Addr)(h:b≠p.block):(((((w2.setCell ⟨b,0,none⟩ v0).setCell ⟨b,1,none⟩ a).setCell ⟨b,2,none⟩ v2).setCell ⟨b,3,none⟩ v3).setCell ⟨b,4,none⟩ v4).cell? p=w2.cell? p:=by
 rw[World.cell?_setCell_far _ _ _ _ h,World.cell?_setCell_far _ _ _ _ h,World.cell?_setCell_far _ _ _ _ h,World.cell?_setCell_far _ _ _ _ h,World.cell?_setCell_far _ _ _ _ h]
theorem iV{w w1 w2:World}{n c h a0 a1 a2 a3 a4 v0 a v2 v3 v4:Value}(i:w.heap.size<w1.heap.size)
 (b:w2.cell? ⟨w1.heap.size,0,none⟩=some n/\w2.cell? ⟨w1.heap.size,1,none⟩=some c/\w2.cell? ⟨w1.heap.size,2,none⟩=some h/\w2.cell? ⟨w1.heap.size+1,0,none⟩=some a0/\w2.cell? ⟨w1.heap.size+1,1,none⟩=some a1 /\
   w2.cell? ⟨w1.heap.size+1,2,none⟩=some a2/\w2.cell? ⟨w1.heap.size+1,3,none⟩=some a3/\w2.cell? ⟨w1.heap.size+1,4,none⟩=some a4) :
 (((((w2.setCell ⟨w.heap.size,0,none⟩ v0).setCell ⟨w.heap.size,1,none⟩ a).setCell ⟨w.heap.size,2,none⟩ v2).setCell ⟨w.heap.size,3,none⟩ v3).setCell ⟨w.heap.size,4,none⟩ v4).cell? ⟨w1.heap.size,0,none⟩=some n/\(((((w2.setCell ⟨w.heap.size,0,none⟩ v0).setCell ⟨w.heap.size,1,none⟩ a).setCell ⟨w.heap.size,2,none⟩ v2).setCell ⟨w.heap.size,3,none⟩ v3).setCell ⟨w.heap.size,4,none⟩ v4).cell? ⟨w1.heap.size,1,none⟩=some c/\(((((w2.setCell ⟨w.heap.size,0,none⟩ v0).setCell ⟨w.heap.size,1,none⟩ a).setCell ⟨w.heap.size,2,none⟩ v2).setCell ⟨w.heap.size,3,none⟩ v3).setCell ⟨w.heap.size,4,none⟩ v4).cell? ⟨w1.heap.size,2,none⟩=some h/\(((((w2.setCell ⟨w.heap.size,0,none⟩ v0).setCell ⟨w.heap.size,1,none⟩ a).setCell ⟨w.heap.size,2,none⟩ v2).setCell ⟨w.heap.size,3,none⟩ v3).setCell ⟨w.heap.size,4,none⟩ v4).cell? ⟨w1.heap.size+1,0,none⟩=some a0/\(((((w2.setCell ⟨w.heap.size,0,none⟩ v0).setCell ⟨w.heap.size,1,none⟩ a).setCell ⟨w.heap.size,2,none⟩ v2).setCell ⟨w.heap.size,3,none⟩ v3).setCell ⟨w.heap.size,4,none⟩ v4).cell? ⟨w1.heap.size+1,1,none⟩=some a1 /\
  (((((w2.setCell ⟨w.heap.size,0,none⟩ v0).setCell ⟨w.heap.size,1,none⟩ a).setCell ⟨w.heap.size,2,none⟩ v2).setCell ⟨w.heap.size,3,none⟩ v3).setCell ⟨w.heap.size,4,none⟩ v4).cell? ⟨w1.heap.size+1,2,none⟩=some a2/\(((((w2.setCell ⟨w.heap.size,0,none⟩ v0).setCell ⟨w.heap.size,1,none⟩ a).setCell ⟨w.heap.size,2,none⟩ v2).setCell ⟨w.heap.size,3,none⟩ v3).setCell ⟨w.heap.size,4,none⟩ v4).cell? ⟨w1.heap.size+1,3,none⟩=some a3/\(((((w2.setCell ⟨w.heap.size,0,none⟩ v0).setCell ⟨w.heap.size,1,none⟩ a).setCell ⟨w.heap.size,2,none⟩ v2).setCell ⟨w.heap.size,3,none⟩ v3).setCell ⟨w.heap.size,4,none⟩ v4).cell? ⟨w1.heap.size+1,4,none⟩=some a4:=by
 obtain⟨h1,h2,h3,h4,d,e,f,g⟩:=b;refine⟨?_,?_,?_,?_,?_,?_,?_,?_⟩
 ·exact(mM _ _ _ _ _ _ _ _ (by simp;omega)).trans h1
 ·exact(mM _ _ _ _ _ _ _ _ (by simp;omega)).trans h2
 ·exact(mM _ _ _ _ _ _ _ _ (by simp;omega)).trans h3
 ·exact(mM _ _ _ _ _ _ _ _ (by simp;omega)).trans h4
 ·exact(mM _ _ _ _ _ _ _ _ (by simp;omega)).trans d
 ·exact(mM _ _ _ _ _ _ _ _ (by simp;omega)).trans e
 ·exact(mM _ _ _ _ _ _ _ _ (by simp;omega)).trans f
 ·exact(mM _ _ _ _ _ _ _ _ (by simp;omega)).trans g
theorem iW{w w1 w2:World}{o o':Obj}{t:TypeId}(a:Below (w.alloc (.cells #[.int .i64 0,.int .i64 0,.int .i64 0,.int .i64 0,.int .i64 0] t)).heap.size (w.alloc (.cells #[.int .i64 0,.int .i64 0,.int .i64 0,.int .i64 0,.int .i64 0] t)) w1)
 (c:Below ((w1.alloc o).alloc o').drew.heap.size ((w1.alloc o).alloc o').drew w2) :
 (∀ i,i<5->w2.cell? ⟨w.heap.size,i,none⟩=some (.int .i64 0)) /\ ∀ i,w2.frozen? ⟨w.heap.size,i,none⟩=false:=by
 have d:w.heap.size<w1.heap.size:=by have:=a.size;simp at this;omega
 have b:Below w1.heap.size w1 w2:=((stA (stA (J w1) o) o').drew).trans (c.mono (by simp;omega));refine⟨λi hi=>?_,λi=>?_⟩
 ·rw[b.cell d,a.cell (by simp),jb _ _ _ _ U]
  have hc:i=0 \/ i=1 \/ i=2 \/ i=3 \/ i=4:=by omega
  rcases hc with rfl|rfl|rfl|rfl|rfl <;> rfl
 ·rw[b.frozen d,a.frozen (by simp)]
  simp
def et(l:Bool)(a b:Int):Int:=if l then a else b
theorem zlD{P:Int->Prop}(l:Bool){a b:Int}(c:P a)(hb:P b):P (et l a b):=by cases l <;> assumption
theorem Pl.new(w:World)(cs:Array Value)(t:TypeId)(b:Nat)(h:b=w.heap.size){k:Nat}:(w.alloc (.cells cs t)).cell? ⟨b,k,none⟩=cs[k]?:=by subst h;exact gB ..
theorem qc(w:World)(cs:Array Value)(t:TypeId)(n b:Nat)(hb:b=w.heap.size)(h:cs.size=n):(w.alloc (.cells cs t)).there b 0 n:=λj a=>by
 subst hb;refine⟨?_,Lib.frozen_of_heap (aJ w _) _⟩;rw[Pl.new _ _ _ _ U,fm (by omega)];rfl
theorem zcJ{w w':World}{b n:Nat}(h:w.there b 0 n)(hb:Below w.heap.size w w')(a:b<w.heap.size):w'.there b 0 n:=λj c=>by
 have:=h j c;rw[hb.cell (p:=⟨b,0+j,none⟩) a,hb.frozen (p:=⟨b,0+j,none⟩) a];exact this
theorem Pl.below{n:Nat}{a:World}{b:Nat}(hb:n<=b):∀(vs:List Value) (o:Nat) (w:World),Below n a w->Below n a (w.setCells b o vs)
 | [],o,w,h=>h
 | v::vs,o,w,h=>Pl.below hb vs (o+1) _ (h.setCell hb v)
theorem Pl.fin{w w0 w1:World}{b:Nat}(L:List Value)(c:w0.there b 0 L.length)(d:Below w.heap.size w w0)(a:Below w0.heap.size w0 w1)(e:b<w0.heap.size)(f:w.heap.size<=b):Below w.heap.size w (w1.setCells b 0 L)/\(w1.setCells b 0 L).rangeAt b 0 L :=
 ⟨Pl.below f L 0 w1 (bn d a),World.rangeAt_setCells_same w1 b 0 L (zcJ c a e)⟩
theorem Pl.cutW{P:Program}{b:Code}{aj:Exit->Act->World->Prop}{a:Act}{w:World}(K:World->Prop)(h:K w)(k:∀ w',K w'->b.wp P aj a w'):b.wp P aj a w:=k w h
theorem Pl.cutB{P:Program}{b:Func}{R:Ending->World->Prop}{e:Exit}{a:Act}{w:World}(K:World->Prop)(h:K w)(k:∀ w',K w'->bodyPost P b R e a w'):bodyPost P b R e a w:=k w h
theorem Pl.spot{w:World}{a:Addr}{v:Value}(h:w.cell? a=some v):a.spot=none:=by
 unfold World.cell? at h;split at h
 ·split at h
  ·cases h
  ·rename_i b
   cases c:a.spot with
   | none=>rfl
   | some x=>rw[c] at b;simp at b
 ·cases h
theorem lY{a b:Value}(h:a=b):Ending.returned a=.returned b:=by rw[h]
theorem xA{α:Type}{l:List α}{i:Nat}{a:α}:l.toArray.setIfInBounds i a=(l.set i a).toArray:=b8 _ _ _
theorem xB{α:Type}{a b:α}{l:List α}:(a::l).set 0 b=b::l:=dk
theorem xC{α:Type}{a b:α}{l:List α}{n:Nat}:(a::l).set (n+1) b=a::l.set n b:=dm
structure Mv (B : Nat) (T T' : Nat -> Prop) (w w' : World) : Prop where
 below:Below B w w'
 block:∀ k,k<w.heap.size->¬ T k->w'.heap[k]?=w.heap[k]?
 fresh:∀ k,T' k->T k \/ w.heap.size<=k
section
variable {B : Nat} {T T' T'' : Nat -> Prop} {a b c w w' : World}
theorem Mv.size(h:Mv B T T' w w'):w.heap.size<=w'.heap.size:=h.below.size
theorem Mv.refl(B:Nat)(T:Nat->Prop)(w:World):Mv B T T w w:=⟨aW _ _,λ_ _ _=>rfl,λ_ h=>Or.inl h⟩
theorem Mv.trans(h:Mv B T T' a b)(k:Mv B T' T'' b c):Mv B T T'' a c :=
 ⟨h.below.trans k.below,λi hi e=>(k.block i (ap hi h.size) (λd=>by rcases h.fresh i d with x|x;exact e x;omega)).trans (h.block i hi e),
   λi hi=>by
    rcases k.fresh i hi with x|x
    ·exact h.fresh i x
    ·exact Or.inr (ax h.size x)⟩
theorem Mv.of_below(hB:B<=w.heap.size)(h:Below w.heap.size w w'):Mv B T T w w':=⟨h.mono hB,λk a _=>h.block k a,λ_ h=>Or.inl h⟩
theorem Mv.alloc(h:Mv B T T' w w')(hB:B<=w.heap.size)(o:Obj):Mv B T T' w (w'.alloc o) :=
 ⟨h.below.alloc (ax hB h.size) o,λk a b=>(gJ _ _ _ (ap a h.size)).trans (h.block k a b),h.fresh⟩
theorem Mv.drew(h:Mv B T T' w w'):Mv B T T' w w'.drew:=⟨h.below.drew,h.block,h.fresh⟩
theorem Mv.drewN(h:Mv B T T' w w')(n:Nat):Mv B T T' w (w'.drewN n):=⟨⟨h.below.os,h.below.tape,h.below.output,h.below.size,h.below.block⟩,h.block,h.fresh⟩
theorem Mv.setCell(h:Mv B T T' w w'){p:Addr}(hB:B<=p.block)(hp:T p.block \/ w.heap.size<=p.block)(u:Value):Mv B T T' w (w'.setCell p u) :=
 ⟨h.below.setCell hB u,λk b a=>(bL _ _ _ _ (λe=>by subst e;rcases hp with x|x;exact a x;omega)).trans (h.block k b a),h.fresh⟩
theorem Mv.cell(h:Mv B T T' w w'){k:Nat}(a:k<w.heap.size)(b:¬ T k)(o:Nat):w'.cell? ⟨k,o,none⟩=w.cell? ⟨k,o,none⟩:=am (w:=w) (h.block k a b)
theorem Mv.froz(h:Mv B T T' w w'){k:Nat}(a:k<w.heap.size)(b:¬ T k)(o:Nat):w'.frozen? ⟨k,o,none⟩=w.frozen? ⟨k,o,none⟩:=dC (w:=w) (h.block k a b)
theorem Mv.also(h:Mv B T T' w w')(p:Nat):Mv B (λk=>k=p \/ T k) (λk=>k=p \/ T' k) w w' :=
 ⟨h.below,λk a b=>h.block k a (λx=>b (Or.inr x)),λk a=>by
   rcases a with x|x
   ·exact Or.inl (Or.inl x)
   ·rcases h.fresh k x with y|y
    ·exact Or.inl (Or.inr y)
    ·exact Or.inr y⟩
end
theorem oZ{k:IntKind}{a b:Int}(h:a=b):Ending.returned (.int k a)=.returned (.int k b):=by rw[h]
theorem zxr{k:IntKind}{a c:Int}{b b':Bool}(h:a=c)(h1:b=b'):Ending.returned (.tuple #[.int k a,.bool b])=.returned (.tuple #[.int k c,.bool b']):=by rw[h,h1]
theorem zh7{k:IntKind}{a d:Int}{b b' c e:Bool}(h:a=d)(h1:b=b')(h2:c=e):Ending.returned (.tuple #[.int k a,.bool b,.bool c])=.returned (.tuple #[.int k d,.bool b',.bool e]):=by rw[h,h1,h2]
theorem su{k l:IntKind}{a d c e:Int}{b b':Bool}(h:a=d)(h1:b=b')(h2:c=e):Ending.returned (.tuple #[.int k a,.bool b,.int l c])=.returned (.tuple #[.int k d,.bool b',.int l e]):=by rw[h,h1,h2]
theorem zqm(a b:Int)(w:World)(f:0<=a)(c:a<=65535)(hb:0<=b)(d:b<=65535):Calls prog 372 #[.int .u16 a,.int .u16 b] w λe w'=>e=.returned (.tuple #[.int .u16 (M.addN a b),.bool (M.addC a b),.bool (M.addV a b)])/\w'=w:=by
 go_enter func372,ntmps372;go_wp2
 go_ret3
 exact⟨zh7 (bc _) (M.carry_add a b f c hb d) (M.over_add a b f c hb d),U⟩
theorem zqn(a b:Int)(w:World)(f:0<=a)(c:a<=65535)(hb:0<=b)(d:b<=65535):Calls prog 373 #[.int .u16 a,.int .u16 b] w λe w'=>e=.returned (.tuple #[.int .u16 (M.subN a b),.bool (M.subC a b),.bool (M.subV a b)])/\w'=w:=by
 go_enter func373,ntmps373;go_wp2
 go_ret3
 exact⟨zh7 (bc _) U (M.over_sub a b f c hb d),U⟩
theorem zvK(a b:Int)(w:World)(f:0<=a)(c:a<=65535)(hb:0<=b)(d:b<=65535):Calls prog 379 #[.int .u16 a,.int .u16 b] w λe w'=>e=.returned (.tuple #[.int .u16 (M.mulN a b),.bool (M.mulC a b)])/\w'=w:=by
 have g:=M.mul_bd a b f c hb d;go_enter func379,ntmps379;go_wp2
 go_ret2
 exact⟨zxr (bc _) (M.mul_high _ g.1),U⟩
end Go.Proofs.YthghjlinhokimaaGreatDoor
namespace Go.Proofs.YthghjlinhokimaaGreatDoor.C
structure Cpu where
 R:List Int
 PC:Int
 Z:Bool
 N:Bool
 C:Bool
 V:Bool
 May:Bool
 Waits:Bool
deriving DecidableEq
structure Mem (σ : Type) where
 rd:σ->Int->Int × σ
 wr:σ->Int->Int->σ
 fuel:σ->Nat:=λ_=>4
structure St (σ : Type) where
 c:Cpu
 s:σ
 n:Int
def Cpu.r(c:Cpu)(i:Int):Int:=c.R.getD i.toNat 0
def Cpu.set(c:Cpu)(i:Int)(x:Int):Cpu:={ c with R:=c.R.set i.toNat x }
def Cpu.zero:Cpu:=⟨[0,0,0,0,0,0,0,0],0,false,false,false,false,false,false⟩
def sign(c:Cpu):Int:=(if c.Z then 1 else 0)+(if c.N then 2 else 0)+(if c.C then 4 else 0)+(if c.V then 8 else 0)+(if c.May then 16 else 0)
def Cpu.ok(c:Cpu):Prop:=c.R.length=8/\(∀ x∈c.R,0<=x/\x<=65535)/\0<=c.PC/\c.PC<=65535
section
variable {σ : Type} (m : Mem σ)
def Mem.rdw(s:σ)(a:Int):Int × σ:=((m.rd s a).1*256+(m.rd (m.rd s a).2 ((a+1)%65536)).1,(m.rd (m.rd s a).2 ((a+1)%65536)).2)
def Mem.wrw(s:σ)(a n:Int):σ:=m.wr (m.wr s a (n/256)) ((a+1)%65536) (n%256)
def push(x:St σ)(n:Int):St σ:=⟨x.c.set 7 ((x.c.r 7-2)%65536),m.wrw x.s ((x.c.r 7-2)%65536) n,x.n⟩
def popV(x:St σ):Int:=(m.rdw x.s (x.c.r 7)).1
def pop(x:St σ):St σ:=⟨x.c.set 7 ((x.c.r 7+2)%65536),(m.rdw x.s (x.c.r 7)).2,x.n⟩
def toPC(x:St σ)(a:Int):St σ:={ x with c:={ x.c with PC:=a } }
def leave(x:St σ)(a:Int):St σ :=
 let y:=push m (push m x x.c.PC) (sign (push m x x.c.PC).c)
 ⟨{ y.c with May:=false,Waits:=false,PC:=(m.rdw y.s a).1 },(m.rdw y.s a).2,y.n⟩
def comeBack(x:St σ):St σ :=
 let n:=popV m x
 let y:=pop m x
 let z:=pop m y
 ⟨{ z.c with PC:=popV m y,Z:=decide (n%2=1),N:=decide (n/2%2=1),C:=decide (n/4%2=1),V:=decide (n/8%2=1),May:=decide (n/16%2=1) },z.s,z.n⟩
def setR(x:St σ)(d v:Int):St σ:={ x with c:=x.c.set d v }
def signs(x:St σ)(n:Int)(c v:Bool):St σ:={ x with c:={ x.c with Z:=n == 0,N:=decide (32768<=n),C:=c,V:=v } }
def flN(k:Nat)(a b:Int):Int:=if k=7 \/ k=15 then M.addN a b else if k=8 \/ k=14 then M.subN a b else if k=9 then bits .and .u16 a b else if k=10 then bits .or .u16 a b else if k=11 then bits .xor .u16 a b else M.mulN a b
def flC(k:Nat)(a b:Int):Bool:=if k=7 \/ k=15 then M.addC a b else if k=8 \/ k=14 then M.subC a b else if k=9 \/ k=10 \/ k=11 then false else M.mulC a b
def flV(k:Nat)(a b:Int):Bool:=if k=7 \/ k=15 then M.addV a b else if k=8 \/ k=14 then M.subV a b else false
def reckon(x:St σ)(k:Nat)(a b:Int):St σ:=signs x (flN k a b) (flC k a b) (flV k a b)
def jump(x:St σ)(w:Int):St σ:=⟨{ x.c with PC:=w },x.s,x.n+1⟩
def both(x:St σ)(k:Nat)(d s:Int):St σ:=setR (reckon x k (x.c.r d) (x.c.r s)) d (flN k (x.c.r d) (x.c.r s))
def shift(x:St σ)(d n:Int)(o:Bool):St σ:=setR (signs x n o false) d n
def act(x:St σ)(k:Nat)(d s n w:Int):St σ :=
 match k with
 | 1=>setR x d (x.c.r s)
 | 2=>setR x d w
 | 3=>⟨x.c.set d (m.rdw x.s ((x.c.r s+n)%65536)).1,(m.rdw x.s ((x.c.r s+n)%65536)).2,x.n⟩
 | 4=>{ x with s:=m.wrw x.s ((x.c.r d+n)%65536) (x.c.r s) }
 | 5=>⟨x.c.set d (m.rd x.s ((x.c.r s+n)%65536)).1,(m.rd x.s ((x.c.r s+n)%65536)).2,x.n⟩
 | 6=>{ x with s:=m.wr x.s ((x.c.r d+n)%65536) (x.c.r s%256) }
 | 7=>both x 7 d s
 | 8=>both x 8 d s
 | 9=>both x 9 d s
 | 10=>both x 10 d s
 | 11=>both x 11 d s
 | 12=>shift x d (M.shlN (x.c.r d) n) (M.shlC (x.c.r d) n)
 | 13=>shift x d (M.shrN (x.c.r d) n) (M.shrC (x.c.r d) n)
 | 14=>reckon x 14 (x.c.r d) (x.c.r s)
 | 15=>setR (reckon x 15 (x.c.r d) (n%65536)) d (flN 15 (x.c.r d) (n%65536))
 | 16=>jump x w
 | 17=>if x.c.Z then jump x w else x
 | 18=>if x.c.N then jump x w else x
 | 19=>if x.c.C then jump x w else x
 | 20=>toPC (push m x x.c.PC) w
 | 21=>toPC (pop m x) (popV m x)
 | 22=>push m x (x.c.r s)
 | 23=>setR (pop m x) d (popV m x)
 | 24=>{ x with c:={ x.c with May:=true } }
 | 25=>{ x with c:={ x.c with May:=false } }
 | 26=>comeBack m x
 | 27=>{ x with c:={ x.c with Waits:=true } }
 | 28=>both x 28 d s
 | 29=>if x.c.Z then x else jump x w
 | 31=>leave m x 4
 | _=>x
def word1(c:Cpu)(s:σ):Int:=(m.rdw s c.PC).1
def word2(c:Cpu)(s:σ):Int:=if O.rLen (word1 m c s)=2 then (m.rdw (m.rdw s c.PC).2 ((c.PC+2)%65536)).1 else 0
def behind(c:Cpu)(s:σ):St σ :=
 ⟨{ c with PC:=(c.PC+2*O.rLen (word1 m c s))%65536 },if O.rLen (word1 m c s)=2 then (m.rdw (m.rdw s c.PC).2 ((c.PC+2)%65536)).2 else (m.rdw s c.PC).2,0⟩
def order(c:Cpu)(s:σ):St σ :=
 act m { behind m c s with n:=K.cyc (O.rk (word1 m c s)) } (O.rk (word1 m c s)) (O.rD (word1 m c s)) (O.rS (word1 m c s)) (O.rN (word1 m c s)) (O.rW (word1 m c s) (word2 m c s))
def step(c:Cpu)(s:σ)(a:Bool):St σ :=
 if a && c.May then { leave m ⟨c,s,0⟩ 2 with n:=6 }
 else if c.Waits then ⟨c,s,1⟩
 else order m c s
end
/-! ### what is in range stays in range -/
theorem Cpu.r_bd{c:Cpu}(h:c.ok)(i:Int):0<=c.r i/\c.r i<=65535:=by
 unfold Cpu.r;by_cases hi:i.toNat<c.R.length
 ·rw[dK,au hi]
  exact h.2.1 _ (List.getElem_mem hi)
 ·rw[dK,cI (by omega)];simp
theorem Cpu.ok_set{c:Cpu}(h:c.ok)(i x:Int)(b:0<=x)(h1:x<=65535):(c.set i x).ok:=by
 refine⟨by simp[Cpu.set,h.1],λy a=>?_,h.2.2.1,h.2.2.2⟩;rcases lI a with a|rfl
 ·exact h.2.1 y a
 ·exact⟨b,h1⟩
theorem Cpu.r_set{c:Cpu}(h:c.ok)(i:Nat)(hi:i<8)(x:Int):(c.set i x).r i=x:=by
 unfold Cpu.r Cpu.set;simp only[bH];rw[dK,dB (by rw[h.1];exact hi)];rfl
theorem Cpu.ok_pc{c:Cpu}(h:c.ok)(x:Int)(a:0<=x)(h1:x<=65535):Cpu.ok { c with PC:=x }:=⟨h.1,h.2.1,a,h1⟩
theorem sign_bd(c:Cpu):0<=sign c/\sign c<=31:=by unfold sign;split <;> split <;> split <;> split <;> split <;> omega
end Go.Proofs.YthghjlinhokimaaGreatDoor.C
namespace Go.Proofs.YthghjlinhokimaaGreatDoor
open Go.ChangeShapes Go.WideShapes Go.ChangeAt Go.RowKit Go.Proofs.Tryz
theorem cutW{P:Program}{b:Code}{aj:Exit->Act->World->Prop}{a:Act}{w:World}(K:World->Prop)(h:K w)(k:∀ w',K w'->b.wp P aj a w'):b.wp P aj a w:=k w h
abbrev fw(n:Nat)(cs:Array Value × Array Value):Value:=.func (.func n) cs.1 cs.2
abbrev fv(n:Nat)(cs:Array Value):Value:=.func (.func n) #[] cs
def Tw{σ:Type}(T:σ->Nat->Prop)(w:World)(s:σ)(k:Nat):Prop:=T s k \/ ∃ cs fr,w.heap[k]?=some (.cells cs 104 fr)
structure RS {σ : Type} (m : C.Mem σ) (B : Nat) (nr nw : Nat) (cr cw : Array Value × Array Value) (I : World -> σ -> Prop) (T : σ -> Nat -> Prop) : Prop where
 lt:∀ {w s},I w s->∀ k,T s k->k<w.heap.size
 keep:∀ {w w' s},I w s->w.heap.size<=w'.heap.size->(∀ k,Tw T w s k->w'.heap[k]?=w.heap[k]?)->I w' s
 shapes:∀ {w s},I w s->aZ w
 gT:∀ {s},T s 2
 byte:∀ s a,0<=(m.rd s a).1/\(m.rd s a).1<=255
 frd:∀ s a,m.fuel s<=m.fuel (m.rd s a).2
 fwr:∀ s a b,m.fuel s<=m.fuel (m.wr s a b)+1
 big:∀ {w s},I w s->B<=w.heap.size
 read:∀ w s (a:Int),0<=a->a<=65535->I w s->Calls prog 210 #[.agg #[fw nr cr,fw nw cw],.int .u16 a] w λe w'=>e=.returned (.int .u8 (m.rd s a).1)/\I w' (m.rd s a).2/\Mv B (Tw T w s) (Tw T w' (m.rd s a).2) w w'
 write:∀ w s (a b:Int),0<=a->a<=65535->0<=b->b<=255->1<=m.fuel s->I w s->Calls prog 298 #[.agg #[fw nr cr,fw nw cw],.int .u16 a,.int .u8 b] w λe w'=>e=.returned (.tuple #[])/\I w' (m.wr s a b)/\Mv B (Tw T w s) (Tw T w' (m.wr s a b)) w w'
theorem Mv.weak{B:Nat}{T T' T'':Nat->Prop}{w w':World}(h:Mv B T T' w w')(a:∀ k,T'' k->T' k \/ w.heap.size<=k):Mv B T T'' w w' :=
 ⟨h.below,h.block,λk b=>(a k b).elim (h.fresh k) Or.inr⟩
section
variable {σ : Type} {T : σ -> Nat -> Prop} {w w' : World} {s : σ} {k : Nat}
theorem Tw.same(e:w'.heap[k]?=w.heap[k]?)(h:Tw T w' s k):Tw T w s k:=h.imp id (λ⟨cs,fr,x⟩=>⟨cs,fr,by rw[<- e];exact x⟩)
theorem Tw.of(h:¬ T s k){cs:Array Value}{t:TypeId}{fr:Nat × Nat}(e:w.heap[k]?=some (.cells cs t fr))(a:t≠104):¬ Tw T w s k:=λb=>b.elim h (λ⟨c,d,x⟩=>by
 rw[e] at x;simp only[aP,cP] at x;exact a x.2.1)
theorem Tw.set{a:Addr}{v:Value}(h:Tw T (w.setCell a v) s k):Tw T w s k:=h.imp id (λ⟨cs,fr,x⟩=>by
 simp only[World.setCell,gC] at x;split at x
 ·revert x
  cases w.heap[k]? with
  | none=>intro x;cases x
  | some o =>
   cases o <;> intro x <;> simp at x <;> (obtain⟨_,rfl,_⟩:=x;exact⟨_,_,U⟩)
 ·exact⟨cs,fr,x⟩)
theorem Tw.sets{b:Nat}:∀ {vs:List Value} {o:Nat} {w:World},Tw T (w.setCells b o vs) s k->Tw T w s k
 | [],o,w,h=>h
 | v::vs,o,w,h=>Tw.set (Tw.sets (vs:=vs) h)
theorem Tw.low(hb:Below w.heap.size w w')(h:Tw T w' s k):Tw T w s k \/ w.heap.size<=k:=by
 rcases ey k w.heap.size with a|a
 ·exact Or.inl (h.same (hb.block k a))
 ·exact Or.inr a
theorem Tw.lt(a:∀ k,T s k->k<w.heap.size)(h:Tw T w s k):k<w.heap.size:=h.elim (a k) (λ⟨cs,fr,x⟩=>(ay.1 x).1)
end
def fC(c:C.Cpu):List Value:=c.R.map (Value.int .u16)++[.int .u16 c.PC,.bool c.Z,.bool c.N,.bool c.C,.bool c.V,.bool c.May,.bool c.Waits]
def cj(c:C.Cpu)(fr fw:Value)(n:Int):Array Value:=(fC c++[fr,fw,.int .i64 n]).toArray
abbrev gx(c:C.Cpu):Value:=.agg #[.int .u16 (c.r 0),.int .u16 (c.r 1),.int .u16 (c.r 2),.int .u16 (c.r 3),.int .u16 (c.r 4),.int .u16 (c.r 5),.int .u16 (c.r 6),.int .u16 (c.r 7),.int .u16 c.PC,.bool c.Z,.bool c.N,.bool c.C,.bool c.V,.bool c.May,.bool c.Waits]
theorem mO{l:List Int}(h:l.length=8):∃ a0 a1 a2 a3 a4 a5 a b,l=[a0,a1,a2,a3,a4,a5,a,b]:=by
 match l,h with
 | [a0,a1,a2,a3,a4,a5,a,b],_=>exact⟨a0,a1,a2,a3,a4,a5,a,b,U⟩
section
variable {σ : Type} {m : C.Mem σ} {B nr nw : Nat} {cr cw : Array Value × Array Value} {I : World -> σ -> Prop} {T : σ -> Nat -> Prop}
structure PI (B : Nat) (nr nw : Nat) (cr cw : Array Value × Array Value) (I : World -> σ -> Prop) (T : σ -> Nat -> Prop) (w : World) (p : Nat) (x : C.St σ) : Prop where
 inv:I w x.s
 own:¬ T x.s p
 big:B<=p
 blk:w.heap[p]?=some (.cells (cj x.c (fw nr cr) (fw nw cw) x.n) 270 (0,0))
 ok:x.c.ok
def PM(B:Nat)(T:σ->Nat->Prop)(p:Nat)(s s':σ)(w w':World):Prop:=Mv B (λk=>k=p \/ Tw T w s k) (λk=>k=p \/ Tw T w' s' k) w w'
theorem PI.lt{w:World}{p:Nat}{x:C.St σ}(h:PI B nr nw cr cw I T w p x):p<w.heap.size:=(ay.1 h.blk).1
theorem PI.ownW{w:World}{p:Nat}{x:C.St σ}(h:PI B nr nw cr cw I T w p x):¬ Tw T w x.s p:=Tw.of h.own h.blk (by decide)
theorem PI.frozen{w:World}{p:Nat}{x:C.St σ}(h:PI B nr nw cr cw I T w p x)(i:Nat):w.frozen? ⟨p,i,none⟩=false:=Lib.frozen_of_heap h.blk i
theorem zjD{c:C.Cpu}(hc:c.R.length=8)(fr fw:Value)(n:Int):(∀ i:Nat,i<8->(cj c fr fw n)[i]?=some (.int .u16 (c.r i)))/\(cj c fr fw n)[8]?=some (.int .u16 c.PC)/\(cj c fr fw n)[9]?=some (.bool c.Z)/\(cj c fr fw n)[10]?=some (.bool c.N)/\(cj c fr fw n)[11]?=some (.bool c.C) /\
  (cj c fr fw n)[12]?=some (.bool c.V)/\(cj c fr fw n)[13]?=some (.bool c.May)/\(cj c fr fw n)[14]?=some (.bool c.Waits)/\(cj c fr fw n)[15]?=some fr/\(cj c fr fw n)[16]?=some fw/\(cj c fr fw n)[17]?=some (.int .i64 n):=by
 obtain⟨a0,a1,a2,a3,a4,a5,a,b,h⟩:=mO hc;unfold cj fC C.Cpu.r;rw[h];refine⟨λi hi=>?_,U,U,U,U,U,U,U,U,U,U⟩;have:i=0 \/ i=1 \/ i=2 \/ i=3 \/ i=4 \/ i=5 \/ i=6 \/ i=7:=by omega
 rcases this with rfl|rfl|rfl|rfl|rfl|rfl|rfl|rfl <;> rfl
theorem PI.reg{w:World}{p:Nat}{x:C.St σ}(h:PI B nr nw cr cw I T w p x)(i:Nat)(hi:i<8):w.cell? ⟨p,i,none⟩=some (.int .u16 (x.c.r i)):=by
 rw[Lib.cell_of_heap h.blk i];exact(zjD h.ok.1 _ _ _).1 i hi
theorem PI.cells{w:World}{p:Nat}{x:C.St σ}(h:PI B nr nw cr cw I T w p x):w.cell? ⟨p,8,none⟩=some (.int .u16 x.c.PC)/\w.cell? ⟨p,9,none⟩=some (.bool x.c.Z)/\w.cell? ⟨p,10,none⟩=some (.bool x.c.N)/\w.cell? ⟨p,11,none⟩=some (.bool x.c.C)/\w.cell? ⟨p,12,none⟩=some (.bool x.c.V) /\
  w.cell? ⟨p,13,none⟩=some (.bool x.c.May)/\w.cell? ⟨p,14,none⟩=some (.bool x.c.Waits)/\w.cell? ⟨p,15,none⟩=some (fw nr cr)/\w.cell? ⟨p,16,none⟩=some (fw nw cw)/\w.cell? ⟨p,17,none⟩=some (.int .i64 x.n):=by
 have e:=λi=>Lib.cell_of_heap h.blk i
 obtain⟨_,g,j,h10,h11,h12,h13,a,b,d,f⟩:=zjD h.ok.1 (fw nr cr) (fw nw cw) x.n;exact⟨(e 8).trans g,(e 9).trans j,(e 10).trans h10,(e 11).trans h11,(e 12).trans h12,(e 13).trans h13,(e 14).trans a,(e 15).trans b,(e 16).trans d,(e 17).trans f⟩
theorem PI.regs{w:World}{p:Nat}{x:C.St σ}(h:PI B nr nw cr cw I T w p x):w.cell? ⟨p,0,none⟩=some (.int .u16 (x.c.r 0))/\w.cell? ⟨p,1,none⟩=some (.int .u16 (x.c.r 1))/\w.cell? ⟨p,2,none⟩=some (.int .u16 (x.c.r 2))/\w.cell? ⟨p,3,none⟩=some (.int .u16 (x.c.r 3)) /\
  w.cell? ⟨p,4,none⟩=some (.int .u16 (x.c.r 4))/\w.cell? ⟨p,5,none⟩=some (.int .u16 (x.c.r 5))/\w.cell? ⟨p,6,none⟩=some (.int .u16 (x.c.r 6))/\w.cell? ⟨p,7,none⟩=some (.int .u16 (x.c.r 7)) :=
 ⟨h.reg 0 (by omega),h.reg 1 (by omega),h.reg 2 (by omega),h.reg 3 (by omega),h.reg 4 (by omega),h.reg 5 (by omega),h.reg 6 (by omega),h.reg 7 (by omega)⟩
theorem py{w:World}{b i:Nat}{cs:Array Value}{t:TypeId}{fr:Nat × Nat}(h:w.heap[b]?=some (.cells cs t fr))(v:Value):(w.setCell ⟨b,i,none⟩ v).heap[b]?=some (.cells (cs.setIfInBounds i v) t fr):=by
 simp[World.setCell,gC,h]
theorem pQ(w:World)(a:Addr)(v:Value):(w.setCell a v).heap.size=w.heap.size:=by simp[World.setCell]
theorem PI.put(R:RS m B nr nw cr cw I T){w:World}{p:Nat}{x:C.St σ}(h:PI B nr nw cr cw I T w p x)(i:Nat)(v:Value)(a:C.Cpu)(d:Int)(b:a.ok)(hc:(cj x.c (fw nr cr) (fw nw cw) x.n).setIfInBounds i v=cj a (fw nr cr) (fw nw cw) d):PI B nr nw cr cw I T (w.setCell ⟨p,i,none⟩ v) p ⟨a,x.s,d⟩ :=
 ⟨R.keep h.inv (by rw[pQ];exact ak _) (λk f=>bL _ _ _ _ (λe=>h.ownW (by have g:k=p:=e;rw[<- g];exact f))),h.own,h.big,by rw[py h.blk,hc],b⟩
theorem zov{c:C.Cpu}(hc:c.R.length=8)(fr fw:Value)(n:Int)(i:Nat)(hi:i<8)(x:Int):(cj c fr fw n).setIfInBounds i (.int .u16 x)=cj (c.set i x) fr fw n:=by
 obtain⟨a0,a1,a2,a3,a4,a5,a,b,h⟩:=mO hc;unfold cj fC C.Cpu.set;rw[h];have:i=0 \/ i=1 \/ i=2 \/ i=3 \/ i=4 \/ i=5 \/ i=6 \/ i=7:=by omega
 rcases this with rfl|rfl|rfl|rfl|rfl|rfl|rfl|rfl <;> rfl
theorem qg{c:C.Cpu}(hc:c.R.length=8)(fr fw:Value)(n:Int):(∀ x,(cj c fr fw n).setIfInBounds 8 (.int .u16 x)=cj { c with PC:=x } fr fw n)/\(∀ x,(cj c fr fw n).setIfInBounds 9 (.bool x)=cj { c with Z:=x } fr fw n)/\(∀ x,(cj c fr fw n).setIfInBounds 10 (.bool x)=cj { c with N:=x } fr fw n) /\
 (∀ x,(cj c fr fw n).setIfInBounds 11 (.bool x)=cj { c with C:=x } fr fw n)/\(∀ x,(cj c fr fw n).setIfInBounds 12 (.bool x)=cj { c with V:=x } fr fw n)/\(∀ x,(cj c fr fw n).setIfInBounds 13 (.bool x)=cj { c with May:=x } fr fw n) /\
 (∀ x,(cj c fr fw n).setIfInBounds 14 (.bool x)=cj { c with Waits:=x } fr fw n)/\(∀ x,(cj c fr fw n).setIfInBounds 17 (.int .i64 x)=cj c fr fw x):=by
 obtain⟨a0,a1,a2,a3,a4,a5,a,b,h⟩:=mO hc;unfold cj fC;rw[h];exact⟨λ_=>U,λ_=>U,λ_=>U,λ_=>U,λ_=>U,λ_=>U,λ_=>U,λ_=>U⟩
variable {w : World} {p : Nat} {x : C.St σ}
theorem PI.putR(R:RS m B nr nw cr cw I T)(h:PI B nr nw cr cw I T w p x)(i:Nat)(hi:i<8)(v:Int)(a:0<=v)(h1:v<=65535):PI B nr nw cr cw I T (w.setCell ⟨p,i,none⟩ (.int .u16 v)) p ⟨x.c.set i v,x.s,x.n⟩ :=
 h.put R i _ _ _ (C.Cpu.ok_set h.ok _ _ a h1) (zov h.ok.1 _ _ _ i hi v)
theorem PI.putPC(R:RS m B nr nw cr cw I T)(h:PI B nr nw cr cw I T w p x)(v:Int)(a:0<=v)(h1:v<=65535):PI B nr nw cr cw I T (w.setCell ⟨p,8,none⟩ (.int .u16 v)) p ⟨{ x.c with PC:=v },x.s,x.n⟩ :=
 h.put R 8 _ _ _ (C.Cpu.ok_pc h.ok v a h1) ((qg h.ok.1 _ _ _).1 v)
theorem PI.putZ(R:RS m B nr nw cr cw I T)(h:PI B nr nw cr cw I T w p x)(v:Bool):PI B nr nw cr cw I T (w.setCell ⟨p,9,none⟩ (.bool v)) p ⟨{ x.c with Z:=v },x.s,x.n⟩:=h.put R 9 _ _ _ h.ok ((qg h.ok.1 _ _ _).2.1 v)
theorem PI.putN(R:RS m B nr nw cr cw I T)(h:PI B nr nw cr cw I T w p x)(v:Bool):PI B nr nw cr cw I T (w.setCell ⟨p,10,none⟩ (.bool v)) p ⟨{ x.c with N:=v },x.s,x.n⟩:=h.put R 10 _ _ _ h.ok ((qg h.ok.1 _ _ _).2.2.1 v)
theorem PI.putC(R:RS m B nr nw cr cw I T)(h:PI B nr nw cr cw I T w p x)(v:Bool):PI B nr nw cr cw I T (w.setCell ⟨p,11,none⟩ (.bool v)) p ⟨{ x.c with C:=v },x.s,x.n⟩:=h.put R 11 _ _ _ h.ok ((qg h.ok.1 _ _ _).2.2.2.1 v)
theorem PI.putV(R:RS m B nr nw cr cw I T)(h:PI B nr nw cr cw I T w p x)(v:Bool):PI B nr nw cr cw I T (w.setCell ⟨p,12,none⟩ (.bool v)) p ⟨{ x.c with V:=v },x.s,x.n⟩:=h.put R 12 _ _ _ h.ok ((qg h.ok.1 _ _ _).2.2.2.2.1 v)
theorem PI.putMay(R:RS m B nr nw cr cw I T)(h:PI B nr nw cr cw I T w p x)(v:Bool):PI B nr nw cr cw I T (w.setCell ⟨p,13,none⟩ (.bool v)) p ⟨{ x.c with May:=v },x.s,x.n⟩:=h.put R 13 _ _ _ h.ok ((qg h.ok.1 _ _ _).2.2.2.2.2.1 v)
theorem PI.putWaits(R:RS m B nr nw cr cw I T)(h:PI B nr nw cr cw I T w p x)(v:Bool):PI B nr nw cr cw I T (w.setCell ⟨p,14,none⟩ (.bool v)) p ⟨{ x.c with Waits:=v },x.s,x.n⟩:=h.put R 14 _ _ _ h.ok ((qg h.ok.1 _ _ _).2.2.2.2.2.2.1 v)
theorem PI.putCyc(R:RS m B nr nw cr cw I T)(h:PI B nr nw cr cw I T w p x)(v:Int):PI B nr nw cr cw I T (w.setCell ⟨p,17,none⟩ (.int .i64 v)) p ⟨x.c,x.s,v⟩:=h.put R 17 _ _ _ h.ok ((qg h.ok.1 _ _ _).2.2.2.2.2.2.2 v)
theorem PI.kept(R:RS m B nr nw cr cw I T)(h:PI B nr nw cr cw I T w p x){w':World}(hb:Below w.heap.size w w'):PI B nr nw cr cw I T w' p x :=
 ⟨R.keep h.inv hb.size (λk a=>hb.block k (a.lt (R.lt h.inv))),h.own,h.big,(hb.block p h.lt).trans h.blk,h.ok⟩
theorem PI.moved(h:PI B nr nw cr cw I T w p x){w':World}{s':σ}(b:I w' s')(a:Mv B (Tw T w x.s) (Tw T w' s') w w'):PI B nr nw cr cw I T w' p ⟨x.c,s',x.n⟩ :=
 ⟨b,λd=>by rcases a.fresh p (Or.inl d) with y|y;exact h.ownW y;have:=h.lt;omega,h.big,(a.block p h.lt h.ownW).trans h.blk,h.ok⟩
theorem PI.same(R:RS m B nr nw cr cw I T)(h:PI B nr nw cr cw I T w p x){w':World}(e:w'.heap=w.heap):PI B nr nw cr cw I T w' p x :=
 ⟨R.keep h.inv (by rw[e];exact ak _) (λk _=>by rw[e]),h.own,h.big,by rw[e];exact h.blk,h.ok⟩
theorem PI.movedS(R:RS m B nr nw cr cw I T)(h:PI B nr nw cr cw I T w p x){w0 w1:World}{s':σ}(a:I w1 s')(b:Mv B (Tw T w0 x.s) (Tw T w1 s') w0 w1)(e:w0.heap=w.heap):PI B nr nw cr cw I T w1 p ⟨x.c,s',x.n⟩:=(h.same R e).moved a b
theorem PI.invS(R:RS m B nr nw cr cw I T)(h:PI B nr nw cr cw I T w p x){w':World}(e:w'.heap=w.heap):I w' x.s:=(h.same R e).inv
theorem PI.after(h:PI B nr nw cr cw I T w p x){w0 w1:World}{T':Nat->Prop}(a:Mv B (Tw T w0 x.s) T' w0 w1)(e:w0.heap=w.heap):(∀ i,w1.cell? ⟨p,i,none⟩=w.cell? ⟨p,i,none⟩)/\(∀ i,w1.frozen? ⟨p,i,none⟩=false)/\p<w1.heap.size:=by
 have hb:w1.heap[p]?=w.heap[p]?:=by rw[a.block p (by rw[e];exact h.lt) (λy=>h.ownW (y.same (by rw[e]))),e]
 exact⟨λi=>am (w:=w) hb,λi=>Lib.frozen_of_heap (hb.trans h.blk) i,ap (by rw[e];exact h.lt) a.size⟩
theorem PI.hB(R:RS m B nr nw cr cw I T)(h:PI B nr nw cr cw I T w p x):B<=w.heap.size:=R.big h.inv
theorem PM.refl(B:Nat)(T:σ->Nat->Prop)(p:Nat)(s:σ)(w:World):PM B T p s s w w:=Mv.refl _ _ _
theorem PM.set{s s':σ}{w w':World}(h:PM B T p s s' w w')(hB:B<=p)(i:Nat)(v:Value):PM B T p s s' w (w'.setCell ⟨p,i,none⟩ v):=(Mv.setCell h hB (Or.inl (Or.inl rfl)) v).weak (λk a=>Or.inl (a.imp id Tw.set))
theorem PM.trans{s s' d:σ}{a b c:World}(h:PM B T p s s' a b)(k:PM B T p s' d b c):PM B T p s d a c:=Mv.trans h k
theorem PM.moved{s s' d:σ}{a b c:World}(h:PM B T p s s' a b)(k:Mv B (Tw T b s') (Tw T c d) b c):PM B T p s d a c:=Mv.trans h (k.also p)
theorem PM.kept{s s':σ}{a b c:World}(h:PM B T p s s' a b)(hB:B<=b.heap.size)(k:Below b.heap.size b c):PM B T p s s' a c:=(Mv.trans h (Mv.of_below hB k)).weak (λi hi=>hi.elim (λe=>Or.inl (Or.inl e)) (λy=>(y.low k).elim (λz=>Or.inl (Or.inr z)) (λz=>Or.inr (ax (Mv.size h) z))))
theorem PM.drew{s s':σ}{w w':World}(h:PM B T p s s' w w'):PM B T p s s' w w'.drew:=Mv.drew h
theorem PM.alloc{s s':σ}{w w':World}(h:PM B T p s s' w w')(hB:B<=w.heap.size)(o:Obj):PM B T p s s' w (w'.alloc o):=(Mv.alloc h hB o).weak (λi hi=>hi.elim (λe=>Or.inl (Or.inl e)) (λy=>(y.low (stA (J w') o)).elim (λz=>Or.inl (Or.inr z)) (λz=>Or.inr (ax (Mv.size h) z))))
theorem PM.cell{s s':σ}{w w':World}(h:PM B T p s s' w w'){k:Nat}(a:k<w.heap.size)(hp:k≠p)(b:¬ Tw T w s k)(o:Nat):w'.cell? ⟨k,o,none⟩=w.cell? ⟨k,o,none⟩:=Mv.cell h a (λe=>e.elim hp b) o
theorem PM.froz{s s':σ}{w w':World}(h:PM B T p s s' w w'){k:Nat}(a:k<w.heap.size)(hp:k≠p)(b:¬ Tw T w s k)(o:Nat):w'.frozen? ⟨k,o,none⟩=w.frozen? ⟨k,o,none⟩:=Mv.froz h a (λe=>e.elim hp b) o
end
theorem zqo(a:Int)(w:World)(c:0<=a)(b:a<=65535):Calls prog 209 #[.int .u16 a] w λe w'=>e=.returned (.tuple #[.int .u8 (a/256),.int .u8 (a%256)])/\w'=w:=by
 go_enter func209,ntmps209;go_wp2
 go_ret2
 exact⟨U,U⟩
theorem zxs(a b:Int)(w:World)(f:0<=a)(c:a<=255)(hb:0<=b)(d:b<=255):Calls prog 211 #[.int .u8 a,.int .u8 b] w λe w'=>e=.returned (.int .u16 (a*256+b))/\w'=w:=by
 go_enter func211,ntmps211;go_wp2;go_ret;exact⟨oZ (M.joined a b f c hb d),U⟩
theorem zg7(a n:Int)(w:World)(c:0<=a)(b:a<=65535)(f:0<=n)(d:n<=15):Calls prog 355 #[.int .u16 a,.int .i64 n] w λe w'=>e=.returned (.bool (M.hasB a n))/\w'=w:=by
 go_enter func355,ntmps355;go_wp2;go_ret;exact⟨nG (M.has_of a n c b),U⟩
theorem zh8(n:Int)(w:World)(h:0<=n)(a:n<=15):Calls prog 354 #[.int .i64 n] w λe w'=>e=.returned (.bool true)/\w'=w:=by
 go_enter func354,ntmps354;go_wp2;go_ret;exact⟨nG (by simp;omega),U⟩
theorem zvL(a:Int)(w:World):Calls prog 301 #[.int .u16 a,.int .i64 0] w λe w'=>e=.returned (.tuple #[.int .u16 a,.bool false,.int .i64 0]) /\ ∃ k,w'=w.drewN k:=by
 go_enter func301,ntmps301;go_wp2_with (go_at_call 354;refine(zh8 _ _ (by omega) (by omega)).mono ?_;rintro e w' ⟨rfl,rfl⟩)
 go_ret3
 exact⟨U,0,U⟩
theorem zs5(a n:Int)(w:World)(d:0<=a)(b:a<=65535)(f:1<=n)(c:n<=15):Calls prog 301 #[.int .u16 a,.int .i64 n] w λe w'=>e=.returned (.tuple #[.int .u16 (M.shlN a n),.bool (M.hasB a (16-n)),.int .i64 0]) /\ ∃ k,w'=w.drewN k:=by
 have g:(n == 0)=false:=by simp;omega
 go_enter func301,ntmps301;go_wp2_with (go_at_call 354;refine(zh8 _ _ (by omega) (by omega)).mono ?_;rintro e w' ⟨rfl,rfl⟩)
 go_quiet ((go_at_call 355;exact Calls.quiet_of_same (zg7 _ _ _ (by omega) (by omega) (by omega) (by omega))))
 go_wp2
 go_ret3
 exact⟨su U U U,_,U⟩
theorem zow(a:Int)(c:0<=a)(b:a<=65535):M.shlN a 0=a:=by unfold M.shlN;simp;omega
theorem zlI(a n:Int)(b:1<=n):M.shlC a n=M.hasB a (16-n):=by unfold M.shlC M.hasB;simp[b]
theorem zox(a:Int):M.shrN a 0=a:=by unfold M.shrN;simp
theorem zlJ(a n:Int)(b:1<=n):M.shrC a n=M.hasB a (n-1):=by unfold M.shrC M.hasB;simp[b]
theorem zvM(a n:Int)(w:World)(d:0<=a)(b:a<=65535)(f:0<=n)(c:n<=15):Calls prog 301 #[.int .u16 a,.int .i64 n] w λe w'=>e=.returned (.tuple #[.int .u16 (M.shlN a n),.bool (M.shlC a n),.int .i64 0]) /\ ∃ k,w'=w.drewN k:=by
 by_cases h:n=0
 ·subst h
  exact(zvL a w).mono λ_ _ h=>⟨h.1.trans (su (zow a d b).symm (by simp[M.shlC]) U),h.2⟩
 ·exact(zs5 a n w d b (by omega) c).mono λ_ _ h=>⟨h.1.trans (su U (zlI a n (by omega)).symm U),h.2⟩
theorem zvN(a:Int)(w:World):Calls prog 302 #[.int .u16 a,.int .i64 0] w λe w'=>e=.returned (.tuple #[.int .u16 a,.bool false,.int .i64 0]) /\ ∃ k,w'=w.drewN k:=by
 go_enter func302,ntmps302;go_wp2_with (go_at_call 354;refine(zh8 _ _ (by omega) (by omega)).mono ?_;rintro e w' ⟨rfl,rfl⟩)
 go_ret3
 exact⟨U,0,U⟩
theorem zs6(a n:Int)(w:World)(d:0<=a)(b:a<=65535)(f:1<=n)(c:n<=15):Calls prog 302 #[.int .u16 a,.int .i64 n] w λe w'=>e=.returned (.tuple #[.int .u16 (M.shrN a n),.bool (M.hasB a (n-1)),.int .i64 0]) /\ ∃ k,w'=w.drewN k:=by
 have g:(n == 0)=false:=by simp;omega
 go_enter func302,ntmps302;go_wp2_with (go_at_call 354;refine(zh8 _ _ (by omega) (by omega)).mono ?_;rintro e w' ⟨rfl,rfl⟩)
 go_quiet ((go_at_call 355;exact Calls.quiet_of_same (zg7 _ _ _ (by omega) (by omega) (by omega) (by omega))))
 go_wp2
 go_ret3
 exact⟨su U U U,_,U⟩
theorem zvO(a n:Int)(w:World)(d:0<=a)(b:a<=65535)(f:0<=n)(c:n<=15):Calls prog 302 #[.int .u16 a,.int .i64 n] w λe w'=>e=.returned (.tuple #[.int .u16 (M.shrN a n),.bool (M.shrC a n),.int .i64 0]) /\ ∃ k,w'=w.drewN k:=by
 by_cases h:n=0
 ·subst h
  exact(zvN a w).mono λ_ _ h=>⟨h.1.trans (su (zox a).symm (by simp[M.shrC]) U),h.2⟩
 ·exact(zs6 a n w d b (by omega) c).mono λ_ _ h=>⟨h.1.trans (su U (zlJ a n (by omega)).symm U),h.2⟩
def gy(n:Nat):Value:=.func (.func n) #[] #[]
def iU(c:Nat):Value:=.func (.func 382) #[] #[.pointer (some ⟨c,0,none⟩)]
def table(c9 a b:Nat):List (Int × Value):=[(7,gy 372),(15,gy 372),(8,gy 373),(14,gy 373),(9,iU c9),(10,iU a),(11,iU b),(28,gy 378)]
theorem zlL(g:Nat)(w:World):Calls prog 374 #[.func (.func g) #[] #[]] w λe w'=>e=.returned (iU w.heap.size)/\w'=w.alloc (.cells #[gy g] 439):=by
 go_enter func374,ntmps374;go_wp2;go_ret;exact⟨U,U⟩
theorem mY:Tryz.prog.underlying 428=some (.map 3 426):=by kernel_rfl
theorem cell_kept{w:World}{p:Addr}{v:Value}(h:w.cell? p=some v)(o:Obj):(w.alloc o).cell? p=some v:=by
 rw[aK]
 ·exact h
 ·unfold World.cell? at h
  split at h
  ·rename_i hb;exact(ay.1 hb).1
  ·cases h
theorem zib(w:World)(v:Value)(t:TypeId):(w.alloc (.cells #[v] t)).cell? ⟨w.heap.size,0,none⟩=some v:=by simp
theorem qj(w:World):Calls prog 369 #[] w λe w'=>∃ b c9 f g,e=.returned (.map (some b))/\j9 w' b (table c9 f g) /\
 w'.cell? ⟨c9,0,none⟩=some (gy 375)/\w'.cell? ⟨f,0,none⟩=some (gy 376)/\w'.cell? ⟨g,0,none⟩=some (gy 377)/\Below w.heap.size w w':=by
 have L:=@iN prog;have k:=zoy w;go_enter func369,ntmps369;go_wp2_with (first
  | (go_at_call 374;refine(zlL _ _).mono ?_;rintro e w' ⟨rfl,rfl⟩)
  | (refine qh _ U _ _ _ 428 U 3 426 mY underlying3 w.heap.size [] U k 7 (gy 372) U U U ?_;intro w1 l m)
  | (refine qh _ U _ _ _ 428 U 3 426 mY underlying3 w.heap.size [(7,gy 372)] U l 15 (gy 372) U U U ?_;intro w2 n o)
  | (refine qh _ U _ _ _ 428 U 3 426 mY underlying3 w.heap.size [(7,gy 372),(15,gy 372)] U n 8 (gy 373) U U U ?_;intro N p q)
  | (refine qh _ U _ _ _ 428 U 3 426 mY underlying3 w.heap.size [(7,gy 372),(15,gy 372),(8,gy 373)] U p 14 (gy 373) U U U ?_;intro w4 r s)
  | (refine qh _ U _ _ _ 428 U 3 426 mY underlying3 w.heap.size [(7,gy 372),(15,gy 372),(8,gy 373),(14,gy 373)] U (r.alloc _) 9 (iU w4.heap.size) U U U ?_;intro h t i)
  | (refine qh _ U _ _ _ 428 U 3 426 mY underlying3 w.heap.size [(7,gy 372),(15,gy 372),(8,gy 373),(14,gy 373),(9,iU w4.heap.size)] U (t.alloc _) 10 (iU h.heap.size) U U U ?_;intro j u d)
  | (refine qh _ U _ _ _ 428 U 3 426 mY underlying3 w.heap.size [(7,gy 372),(15,gy 372),(8,gy 373),(14,gy 373),(9,iU w4.heap.size),(10,iU h.heap.size)] U (u.alloc _) 11 (iU j.heap.size) U U U ?_;intro w7 v a)
  | (refine qh _ U _ _ _ 428 U 3 426 mY underlying3 w.heap.size [(7,gy 372),(15,gy 372),(8,gy 373),(14,gy 373),(9,iU w4.heap.size),(10,iU h.heap.size),(11,iU j.heap.size)] U v 28 (gy 378) U U U ?_;intro P x c))
 go_ret;have M:=c.cell _ _ (a.cell _ _ (cell_kept (d.cell _ _ (cell_kept (i.cell _ _ (zib w4 (gy 375) 439)) (.cells #[gy 376] 439))) (.cells #[gy 377] 439)));have y:=c.cell _ _ (a.cell _ _ (cell_kept (d.cell _ _ (zib h (gy 376) 439)) (.cells #[gy 377] 439)));have z:=c.cell _ _ (a.cell _ _ (zib j (gy 377) 439));have B:Below w.heap.size w (w.alloc (.map #[] 0)):=stA (J w) _;have E:=s.grown w (q.grown w (o.grown w (m.grown w B (ak _)) (ak _)) (ak _)) (ak _);have F:=i.grown w (stA E _) (ak _);have H:=d.grown w (stA F _) (ak _);have I:=a.grown w (stA H _) (ak _);exact⟨w.heap.size,w4.heap.size,h.heap.size,j.heap.size,U,x,M,y,z,c.grown w I (ak _)⟩
section
variable {σ : Type} {m : C.Mem σ} {B nr nw : Nat} {cr cw : Array Value × Array Value} {I : World -> σ -> Prop} {T : σ -> Nat -> Prop}
theorem RS.kept(R:RS m B nr nw cr cw I T){w w':World}{s:σ}(h:I w s)(hb:Below w.heap.size w w'):I w' s:=R.keep h hb.size (λk a=>hb.block k (a.lt (R.lt h)))
theorem RS.out(R:RS m B nr nw cr cw I T){w:World}{s:σ}(h:I w s){k:Nat}(b:w.heap.size<=k):¬ T s k:=λa=>by have:=R.lt h k a;omega
theorem RS.outN(R:RS m B nr nw cr cw I T){w w0:World}{s:σ}{cs:Array Value}{t:TypeId}(h:I w s)(e:w0.heap=(w.alloc (.cells cs t)).heap)(a:t≠104):¬ Tw T w0 s w.heap.size:=Tw.of (R.out h (ak _)) (by rw[e];exact aJ w _) a
theorem RS.box(R:RS m B nr nw cr cw I T){w w1:World}{s:σ}{cs:Array Value}{t:TypeId}{T':Nat->Prop}(h:I w s)(a:Mv B (Tw T (w.alloc (.cells cs t)) s) T' (w.alloc (.cells cs t)) w1)(b:t≠104:=by decide):w.heap.size<w1.heap.size /\ ∀ o,w1.cell? ⟨w.heap.size,o,none⟩=cs[o]?:=by
 refine⟨by have:=a.size;simp at this;omega,λo=>?_⟩;rw[a.cell (by simp) (R.outN h U b) o];exact jb _ _ _ _ U
theorem Mv.unbox{B:Nat}{T:σ->Nat->Prop}{s:σ}{T':Nat->Prop}{w w':World}{o:Obj}(h:Mv B (Tw T (w.alloc o) s) T' (w.alloc o) w')(hB:B<=w.heap.size):Mv B (Tw T w s) T' w w':=(((Mv.refl B (Tw T w s) w).alloc hB o).weak (λk a=>a.low (stA (J w) o))).trans h
theorem zc9(R:RS m B nr nw cr cw I T)(a:Int)(n:0<=a)(g:a<=65535)(w:World)(s:σ)(h:I w s):Calls prog 131 #[.agg #[fw nr cr,fw nw cw],.int .u16 a] w λe w'=>e=.returned (.int .u16 (m.rdw s a).1)/\I w' (m.rdw s a).2/\Mv B (Tw T w s) (Tw T w' (m.rdw s a).2) w w':=by
 have l:=hid h;have b:=hid R;have hB:=R.big h;clear h R;unfold C.Mem.rdw;have p:IntKind.u16.wrap (a+1)=(a+1)%65536:=bc _;go_enter func131,ntmps131;go_wp2_with (first
  | (go_at_call 210;first
      | (refine(b.out.read _ (m.rd s a).2 ((a+1)%65536) (by omega) (by omega) i.out).mono ?_;rintro e w2 ⟨rfl,j,k⟩)
      | (refine(b.out.read _ s a n g (b.out.kept l.out (stA (J _) _))).mono ?_;rintro e w1 ⟨rfl,d,f⟩;obtain⟨o,c⟩:=b.out.box l.out f;have c0:=c 0;have c1:=c 1;have i:=hid d;clear c d))
  | (go_at_call 211;refine(zxs _ _ _ (b.out.byte _ _).1 (b.out.byte _ _).2 (b.out.byte _ _).1 (b.out.byte _ _).2).mono ?_;rintro e w' ⟨rfl,rfl⟩))
 go_ret;exact⟨U,j,(f.trans k).unbox hB⟩
theorem zfw(R:RS m B nr nw cr cw I T)(a n:Int)(t:0<=a)(i:a<=65535)(u:0<=n)(j:n<=65535)(w:World)(s:σ)(k:2<=m.fuel s)(l:I w s):Calls prog 295 #[.agg #[fw nr cr,fw nw cw],.int .u16 a,.int .u16 n] w λe w'=>e=.returned (.tuple #[])/\I w' (m.wrw s a n)/\Mv B (Tw T w s) (Tw T w' (m.wrw s a n)) w w':=by
 have r:=hid l;have h:=hid R;have hB:=R.big l;have b:1<=m.fuel (m.wr s a (n/256)):=by have:=R.fwr s a (n/256);omega
 have c:1<=m.fuel s:=by omega
 have HFU1:=hid b;have HFU0:=hid c;clear l R k c b;unfold C.Mem.wrw;have x:IntKind.u16.wrap (a+1)=(a+1)%65536:=bc _;go_enter func295,ntmps295;go_wp2_with (first
  | (go_at_call 298;first
      | (refine(h.out.write _ (m.wr s a (n/256)) ((a+1)%65536) (n%256) (by omega) (by omega) (by omega) (by omega) HFU1.out o.out).mono ?_;rintro e w2 ⟨rfl,p,q⟩)
      | (refine(h.out.write _ s a (n/256) t i (by omega) (by omega) HFU0.out (h.out.kept r.out (stA (J _) _))).mono ?_;rintro e w1 ⟨rfl,f,g⟩;obtain⟨v,d⟩:=h.out.box r.out g;have c0:=d 0;have c1:=d 1;have o:=hid f;clear d f))
  | (go_at_call 209;refine(zqo n _ u j).mono ?_;rintro e w' ⟨rfl,rfl⟩))
 go_end0;exact⟨U,p,(g.trans q).unbox hB⟩
theorem RS.word(R:RS m B nr nw cr cw I T)(s:σ)(a:Int):0<=(m.rdw s a).1/\(m.rdw s a).1<=65535:=by
 have h1:=R.byte s a;have h2:=R.byte (m.rd s a).2 ((a+1)%65536);unfold C.Mem.rdw;simp only;omega
theorem RS.frdw(R:RS m B nr nw cr cw I T)(s:σ)(a:Int):m.fuel s<=m.fuel (m.rdw s a).2:=by
 unfold C.Mem.rdw;exact ax (R.frd s a) (R.frd _ _)
theorem RS.fwrw(R:RS m B nr nw cr cw I T)(s:σ)(a n:Int):m.fuel s<=m.fuel (m.wrw s a n)+2:=by
 unfold C.Mem.wrw;have h1:=R.fwr s a (n/256);have h2:=R.fwr (m.wr s a (n/256)) ((a+1)%65536) (n%256);omega
theorem RS.fpush(R:RS m B nr nw cr cw I T)(x:C.St σ)(n:Int):m.fuel x.s<=m.fuel (C.push m x n).s+2:=R.fwrw _ _ _
theorem eh(x:Int):IntKind.u16.wrap x=x%65536:=bc x
theorem ze9(R:RS m B nr nw cr cw I T)(n:Int)(v:0<=n)(j:n<=65535)(w:World)(p:Nat)(x:C.St σ)(d:2<=m.fuel x.s)(a:PI B nr nw cr cw I T w p x):Calls prog 285 #[.pointer (some ⟨p,0,none⟩),.int .u16 n] w λe w'=>e=.returned (.tuple #[])/\PI B nr nw cr cw I T w' p (C.push m x n)/\PM B T p x.s (C.push m x n).s w w':=by
 have y:=a.reg 7 (by omega);have k:=a.lt;have z:=a.frozen 7;have N:=C.Cpu.r_bd a.ok 7;have E:=eh (x.c.r 7-2);have t:=hid a;have i:=hid R;have f:=hid (a.putR R 7 (by omega) ((x.c.r 7-2)%65536) (by omega) (by omega));have l:=hid d;clear a R d;go_enter func285,ntmps285;go_wp2;go_region
 go_wp2;refine cutW (λW=>PI B nr nw cr cw I T W p ⟨x.c.set (7:Nat) ((x.c.r 7-2)%65536),x.s,x.n⟩/\PM B T p x.s x.s w W) ⟨f.out.same i.out U,((PM.refl B T p x.s w).set t.out.big 7 _).drew⟩ ?_;rintro W ⟨g,h⟩;have F:=g.reg 7 (by omega);rw[C.Cpu.r_set t.out.ok 7 (by omega)] at F;obtain⟨_,_,_,_,_,_,_,H,L,_⟩:=g.cells;have u:=g.lt;have o:=hid g;have M:=hid h;clear g h y k z E f;go_region_held3 (λw'=>w'.cell? ⟨p,7,none⟩=some (.int .u16 ((x.c.r 7-2)%65536))/\w'.cell? ⟨p,15,none⟩=some (fw nr cr)/\w'.cell? ⟨p,16,none⟩=some (fw nw cw))
  ((go_keep;done))
  ((go_at_call 295;refine(zfw i.out _ _ (by omega) (by omega) v j _ x.s l.out ?_).mono ?_;(exact o.out.invS i.out U);rintro e w1 ⟨rfl,q,b⟩;obtain⟨P,f1,V⟩:=o.out.after b U))
 go_wp2;go_end0;exact⟨U,o.out.movedS i.out q b U,M.out.drew.moved b⟩
theorem zh9(R:RS m B nr nw cr cw I T)(w:World)(p:Nat)(x:C.St σ)(b:PI B nr nw cr cw I T w p x):Calls prog 313 #[.pointer (some ⟨p,0,none⟩)] w λe w'=>e=.returned (.int .u16 (C.popV m x))/\PI B nr nw cr cw I T w' p (C.pop m x)/\PM B T p x.s (C.pop m x).s w w':=by
 have t:w.cell? ⟨p,7,none⟩=some (.int .u16 (x.c.r 7)):=b.reg 7 (by omega);obtain⟨_,_,_,_,_,_,_,n,o,_⟩:=b.cells;have q:=b.lt;have h:=C.Cpu.r_bd b.ok 7;have i:=h.1;have j:=h.2;have g:=hid b;have d:=hid R;clear b R h;go_enter func313,ntmps313;go_wp2;go_region_held3 (λw'=>w'.cell? ⟨p,7,none⟩=some (.int .u16 (x.c.r 7))/\w'.cell? ⟨p,15,none⟩=some (fw nr cr)/\w'.cell? ⟨p,16,none⟩=some (fw nw cw))
  ((go_keep;done))
  ((go_at_call 131;refine(zc9 d.out (x.c.r 7) i j _ x.s ?_).mono ?_;(exact g.out.invS d.out U);rintro e w1 ⟨rfl,k,a⟩;obtain⟨u,f1,v⟩:=g.out.after a U))
 have f:=g.out.movedS d.out k a U;have l:=hid (f.putR d.out 7 (by omega) ((x.c.r 7+2)%65536) (by omega) (by omega));have y:=eh (x.c.r 7+2);clear f;go_wp2;go_region
 go_wp2;go_ret;exact⟨U,l.out.same d.out U,(((PM.refl B T p x.s w).drew.moved a).set g.out.big 7 _).drew⟩
end
theorem wu(a b:Int)(w:World):Calls prog 375 #[.int .u16 a,.int .u16 b] w λe w'=>e=.returned (.int .u16 (bits .and .u16 a b))/\w'=w:=by
 go_enter func375,ntmps375;go_wp2;go_ret;exact⟨U,U⟩
theorem b_or(a b:Int)(w:World):Calls prog 376 #[.int .u16 a,.int .u16 b] w λe w'=>e=.returned (.int .u16 (bits .or .u16 a b))/\w'=w:=by
 go_enter func376,ntmps376;go_wp2;go_ret;exact⟨U,U⟩
theorem wz(a b:Int)(w:World):Calls prog 377 #[.int .u16 a,.int .u16 b] w λe w'=>e=.returned (.int .u16 (bits .xor .u16 a b))/\w'=w:=by
 go_enter func377,ntmps377;go_wp2;go_ret;exact⟨U,U⟩
theorem zvQ(a b:Int)(c:Nat)(w:World)(hc:w.cell? ⟨c,0,none⟩=some (gy 375)):Calls prog 382 #[.int .u16 a,.int .u16 b,.pointer (some ⟨c,0,none⟩)] w λe w'=>e=.returned (.tuple #[.int .u16 (bits .and .u16 a b),.bool false,.bool false])/\w'=w:=by
 unfold gy at hc;go_enter func382,ntmps382;go_wp2_with (go_at_call 375;refine(wu _ _ _).mono ?_;rintro e w' ⟨rfl,rfl⟩)
 go_ret3
 exact⟨U,U⟩
theorem zxy(a b:Int)(c:Nat)(w:World)(hc:w.cell? ⟨c,0,none⟩=some (gy 376)):Calls prog 382 #[.int .u16 a,.int .u16 b,.pointer (some ⟨c,0,none⟩)] w λe w'=>e=.returned (.tuple #[.int .u16 (bits .or .u16 a b),.bool false,.bool false])/\w'=w:=by
 unfold gy at hc;go_enter func382,ntmps382;go_wp2_with (go_at_call 376;refine(b_or _ _ _).mono ?_;rintro e w' ⟨rfl,rfl⟩)
 go_ret3
 exact⟨U,U⟩
theorem zvR(a b:Int)(c:Nat)(w:World)(hc:w.cell? ⟨c,0,none⟩=some (gy 377)):Calls prog 382 #[.int .u16 a,.int .u16 b,.pointer (some ⟨c,0,none⟩)] w λe w'=>e=.returned (.tuple #[.int .u16 (bits .xor .u16 a b),.bool false,.bool false])/\w'=w:=by
 unfold gy at hc;go_enter func382,ntmps382;go_wp2_with (go_at_call 377;refine(wz _ _ _).mono ?_;rintro e w' ⟨rfl,rfl⟩)
 go_ret3
 exact⟨U,U⟩
theorem zvS(a b:Int)(w:World)(f:0<=a)(c:a<=65535)(hb:0<=b)(d:b<=65535):Calls prog 378 #[.int .u16 a,.int .u16 b] w λe w'=>e=.returned (.tuple #[.int .u16 (M.mulN a b),.bool (M.mulC a b),.bool false])/\w'=w:=by
 go_enter func378,ntmps378;go_wp2_with (go_at_call 379;refine(zvK _ _ _ f c hb d).mono ?_;rintro e w' ⟨rfl,rfl⟩)
 go_ret3
 exact⟨U,U⟩
theorem qk(w:World):(zeroValue 426).run prog w=.ok .nilFunc w:=by kernel_rfl
theorem zvT(a b:Int)(w:World)(g:0<=a)(c:a<=65535)(hb:0<=b)(d:b<=65535):Calls prog 356 #[.int .i64 7,.int .u16 a,.int .u16 b] w λe w'=>e=.returned (.tuple #[.int .u16 (M.addN a b),.bool (M.addN a b == 0),.bool (decide (32768<=M.addN a b)),.bool (M.addC a b),.bool (M.addV a b),.int .i64 0])/\Below w.heap.size w w':=by
 have f:=M.top_of (M.addN a b) (M.addN_bd a b).1 (M.addN_bd a b).2;rw[<- f];clear f;go_enter func356,ntmps356;go_wp2_with (first
  | (go_at_call 369;refine(qj _).mono ?_;rintro e w1 ⟨m,c9,h,i,rfl,j,n,h10,h11,k⟩;have l:=qi mY underlying3 j 7 _ (qk w1);simp[table,gy,iU] at l)
  | (go_at_call 372;refine(zqm _ _ _ g c hb d).mono ?_;rintro e w' ⟨rfl,rfl⟩))
 exact ao (v:=.tuple #[.int .u16 (M.addN a b),.bool (M.addN a b == 0),.bool (bits .and .u16 (M.addN a b) 32768 != 0),.bool (M.addC a b),.bool (M.addV a b),.int .i64 0]) (by simp[results,results356,go_sem]) U ⟨U,k⟩
theorem zs8(a b:Int)(w:World)(g:0<=a)(c:a<=65535)(hb:0<=b)(d:b<=65535):Calls prog 356 #[.int .i64 15,.int .u16 a,.int .u16 b] w λe w'=>e=.returned (.tuple #[.int .u16 (M.addN a b),.bool (M.addN a b == 0),.bool (decide (32768<=M.addN a b)),.bool (M.addC a b),.bool (M.addV a b),.int .i64 0])/\Below w.heap.size w w':=by
 have f:=M.top_of (M.addN a b) (M.addN_bd a b).1 (M.addN_bd a b).2;rw[<- f];clear f;go_enter func356,ntmps356;go_wp2_with (first
  | (go_at_call 369;refine(qj _).mono ?_;rintro e w1 ⟨m,c9,h,i,rfl,j,n,h10,h11,k⟩;have l:=qi mY underlying3 j 15 _ (qk w1);simp[table,gy,iU] at l)
  | (go_at_call 372;refine(zqm _ _ _ g c hb d).mono ?_;rintro e w' ⟨rfl,rfl⟩))
 exact ao (v:=.tuple #[.int .u16 (M.addN a b),.bool (M.addN a b == 0),.bool (bits .and .u16 (M.addN a b) 32768 != 0),.bool (M.addC a b),.bool (M.addV a b),.int .i64 0]) (by simp[results,results356,go_sem]) U ⟨U,k⟩
theorem zvU(a b:Int)(w:World)(g:0<=a)(c:a<=65535)(hb:0<=b)(d:b<=65535):Calls prog 356 #[.int .i64 8,.int .u16 a,.int .u16 b] w λe w'=>e=.returned (.tuple #[.int .u16 (M.subN a b),.bool (M.subN a b == 0),.bool (decide (32768<=M.subN a b)),.bool (M.subC a b),.bool (M.subV a b),.int .i64 0])/\Below w.heap.size w w':=by
 have f:=M.top_of (M.subN a b) (M.subN_bd a b).1 (M.subN_bd a b).2;rw[<- f];clear f;go_enter func356,ntmps356;go_wp2_with (first
  | (go_at_call 369;refine(qj _).mono ?_;rintro e w1 ⟨m,c9,h,i,rfl,j,n,h10,h11,k⟩;have l:=qi mY underlying3 j 8 _ (qk w1);simp[table,gy,iU] at l)
  | (go_at_call 373;refine(zqn _ _ _ g c hb d).mono ?_;rintro e w' ⟨rfl,rfl⟩))
 exact ao (v:=.tuple #[.int .u16 (M.subN a b),.bool (M.subN a b == 0),.bool (bits .and .u16 (M.subN a b) 32768 != 0),.bool (M.subC a b),.bool (M.subV a b),.int .i64 0]) (by simp[results,results356,go_sem]) U ⟨U,k⟩
theorem zs9(a b:Int)(w:World)(g:0<=a)(c:a<=65535)(hb:0<=b)(d:b<=65535):Calls prog 356 #[.int .i64 14,.int .u16 a,.int .u16 b] w λe w'=>e=.returned (.tuple #[.int .u16 (M.subN a b),.bool (M.subN a b == 0),.bool (decide (32768<=M.subN a b)),.bool (M.subC a b),.bool (M.subV a b),.int .i64 0])/\Below w.heap.size w w':=by
 have f:=M.top_of (M.subN a b) (M.subN_bd a b).1 (M.subN_bd a b).2;rw[<- f];clear f;go_enter func356,ntmps356;go_wp2_with (first
  | (go_at_call 369;refine(qj _).mono ?_;rintro e w1 ⟨m,c9,h,i,rfl,j,n,h10,h11,k⟩;have l:=qi mY underlying3 j 14 _ (qk w1);simp[table,gy,iU] at l)
  | (go_at_call 373;refine(zqn _ _ _ g c hb d).mono ?_;rintro e w' ⟨rfl,rfl⟩))
 exact ao (v:=.tuple #[.int .u16 (M.subN a b),.bool (M.subN a b == 0),.bool (bits .and .u16 (M.subN a b) 32768 != 0),.bool (M.subC a b),.bool (M.subV a b),.int .i64 0]) (by simp[results,results356,go_sem]) U ⟨U,k⟩
theorem zvV(a b:Int)(w:World)(f:0<=a)(c:a<=65535)(hb:0<=b)(d:b<=65535):Calls prog 356 #[.int .i64 9,.int .u16 a,.int .u16 b] w λe w'=>e=.returned (.tuple #[.int .u16 (bits .and .u16 a b),.bool (bits .and .u16 a b == 0),.bool (decide (32768<=bits .and .u16 a b)),.bool false,.bool false,.int .i64 0])/\Below w.heap.size w w':=by
 have g:=M.top_of (bits .and .u16 a b) (M.and_bd a b f c hb d).1 (M.and_bd a b f c hb d).2;rw[<- g];clear g;go_enter func356,ntmps356;go_wp2_with (first
  | (go_at_call 369;refine(qj _).mono ?_;rintro e w1 ⟨n,c9,h,i,rfl,j,k,h10,h11,l⟩;have m:=qi mY underlying3 j 9 _ (qk w1);simp[table,gy,iU] at m)
  | (go_at_call 382;refine(zvQ _ _ _ _ k).mono ?_;rintro e w' ⟨rfl,rfl⟩))
 exact ao (v:=.tuple #[.int .u16 (bits .and .u16 a b),.bool (bits .and .u16 a b == 0),.bool (bits .and .u16 (bits .and .u16 a b) 32768 != 0),.bool false,.bool false,.int .i64 0]) (by simp[results,results356,go_sem]) U ⟨U,l⟩
theorem zta(a b:Int)(w:World)(f:0<=a)(c:a<=65535)(hb:0<=b)(d:b<=65535):Calls prog 356 #[.int .i64 10,.int .u16 a,.int .u16 b] w λe w'=>e=.returned (.tuple #[.int .u16 (bits .or .u16 a b),.bool (bits .or .u16 a b == 0),.bool (decide (32768<=bits .or .u16 a b)),.bool false,.bool false,.int .i64 0])/\Below w.heap.size w w':=by
 have g:=M.top_of (bits .or .u16 a b) (M.or_bd a b f c hb d).1 (M.or_bd a b f c hb d).2;rw[<- g];clear g;go_enter func356,ntmps356;go_wp2_with (first
  | (go_at_call 369;refine(qj _).mono ?_;rintro e w1 ⟨m,c9,h,i,rfl,j,n,h10,h11,k⟩;have l:=qi mY underlying3 j 10 _ (qk w1);simp[table,gy,iU] at l)
  | (go_at_call 382;refine(zxy _ _ _ _ h10).mono ?_;rintro e w' ⟨rfl,rfl⟩))
 exact ao (v:=.tuple #[.int .u16 (bits .or .u16 a b),.bool (bits .or .u16 a b == 0),.bool (bits .and .u16 (bits .or .u16 a b) 32768 != 0),.bool false,.bool false,.int .i64 0]) (by simp[results,results356,go_sem]) U ⟨U,k⟩
theorem ztb(a b:Int)(w:World)(f:0<=a)(c:a<=65535)(hb:0<=b)(d:b<=65535):Calls prog 356 #[.int .i64 11,.int .u16 a,.int .u16 b] w λe w'=>e=.returned (.tuple #[.int .u16 (bits .xor .u16 a b),.bool (bits .xor .u16 a b == 0),.bool (decide (32768<=bits .xor .u16 a b)),.bool false,.bool false,.int .i64 0])/\Below w.heap.size w w':=by
 have g:=M.top_of (bits .xor .u16 a b) (M.xor_bd a b f c hb d).1 (M.xor_bd a b f c hb d).2;rw[<- g];clear g;go_enter func356,ntmps356;go_wp2_with (first
  | (go_at_call 369;refine(qj _).mono ?_;rintro e w1 ⟨m,c9,h,i,rfl,j,n,h10,h11,k⟩;have l:=qi mY underlying3 j 11 _ (qk w1);simp[table,gy,iU] at l)
  | (go_at_call 382;refine(zvR _ _ _ _ h11).mono ?_;rintro e w' ⟨rfl,rfl⟩))
 exact ao (v:=.tuple #[.int .u16 (bits .xor .u16 a b),.bool (bits .xor .u16 a b == 0),.bool (bits .and .u16 (bits .xor .u16 a b) 32768 != 0),.bool false,.bool false,.int .i64 0]) (by simp[results,results356,go_sem]) U ⟨U,k⟩
theorem ztc(a b:Int)(w:World)(g:0<=a)(c:a<=65535)(hb:0<=b)(d:b<=65535):Calls prog 356 #[.int .i64 28,.int .u16 a,.int .u16 b] w λe w'=>e=.returned (.tuple #[.int .u16 (M.mulN a b),.bool (M.mulN a b == 0),.bool (decide (32768<=M.mulN a b)),.bool (M.mulC a b),.bool false,.int .i64 0])/\Below w.heap.size w w':=by
 have f:=M.top_of (M.mulN a b) (M.mulN_bd a b).1 (M.mulN_bd a b).2;rw[<- f];clear f;go_enter func356,ntmps356;go_wp2_with (first
  | (go_at_call 369;refine(qj _).mono ?_;rintro e w1 ⟨m,c9,h,i,rfl,j,n,h10,h11,k⟩;have l:=qi mY underlying3 j 28 _ (qk w1);simp[table,gy,iU] at l)
  | (go_at_call 378;refine(zvS _ _ _ g c hb d).mono ?_;rintro e w' ⟨rfl,rfl⟩))
 exact ao (v:=.tuple #[.int .u16 (M.mulN a b),.bool (M.mulN a b == 0),.bool (bits .and .u16 (M.mulN a b) 32768 != 0),.bool (M.mulC a b),.bool false,.int .i64 0]) (by simp[results,results356,go_sem]) U ⟨U,k⟩
def fe(b:Nat->Bool):Nat->Int
 | 0=>0
 | k+1=>fe b k+(if b k then 2 ^ k else 0)
theorem zjE(b:Nat->Bool):∀ k,0<=fe b k/\fe b k<2 ^ k
 | 0=>by simp[fe]
 | k+1=>by
  have:=zjE b k;have e:(2:Int) ^ (k+1)=2*2 ^ k:=by rw[fi];omega
  simp only[fe];rw[e];split <;> omega
theorem or_bit:∀ k:Nat,k<5->∀ s:Nat,s<32->s<2 ^ k->bits .or .u16 (s:Int) ((2 ^ k:Nat):Int)=((s+2 ^ k:Nat):Int):=by decide +kernel
theorem tB(b:Nat->Bool)(k:Nat)(c:k<5)(x:Int)(d:x=((2 ^ k:Nat):Int)):bits .or .u16 (fe b k) x=fe b k+2 ^ k:=by
 obtain⟨e,h1⟩:=zjE b k;obtain⟨s,a⟩:=aB e;have h2:s<2 ^ k:=by
  have:((s:Nat):Int)<((2 ^ k:Nat):Int):=by rw[<- a];simpa using h1
  omega
 have h3:2 ^ k<=16:=by
  have:k=0 \/ k=1 \/ k=2 \/ k=3 \/ k=4:=by omega
  rcases this with rfl|rfl|rfl|rfl|rfl <;> decide
 rw[a,d,or_bit k c s (by omega) h2];simp
def je(c:C.Cpu):Nat->Bool
 | 0=>c.Z|1=>c.N|2=>c.C|3=>c.V|_=>c.May
theorem zvP(c:C.Cpu):fe (je c) 5=C.sign c:=by
 simp only[fe,je,C.sign];simp
theorem zxt(a x1 x2 x3 b:Value)(w:World):(Instr.index 400 (.agg #[a,x1,x2,x3,b]) (.int .i64 0)).run prog w=.ok a w:=by kernel_rfl
theorem zxu(a x1 x2 x3 b:Value)(w:World):(Instr.index 400 (.agg #[a,x1,x2,x3,b]) (.int .i64 1)).run prog w=.ok x1 w:=by kernel_rfl
theorem zxv(a x1 x2 x3 b:Value)(w:World):(Instr.index 400 (.agg #[a,x1,x2,x3,b]) (.int .i64 2)).run prog w=.ok x2 w:=by kernel_rfl
theorem zxw(a x1 x2 x3 b:Value)(w:World):(Instr.index 400 (.agg #[a,x1,x2,x3,b]) (.int .i64 3)).run prog w=.ok x3 w:=by kernel_rfl
theorem zxx(b x1 x2 x3 a:Value)(w:World):(Instr.index 400 (.agg #[b,x1,x2,x3,a]) (.int .i64 4)).run prog w=.ok a w:=by kernel_rfl
theorem tC{b:Nat->Bool}{k:Nat}(h:b k=true):fe b (k+1)=fe b k+2 ^ k:=by simp[fe,h]
theorem tD{b:Nat->Bool}{k:Nat}(h:b k=false):fe b (k+1)=fe b k:=by simp[fe,h]
theorem j8{k:IntKind}{a b:Int}(h:a=b):Value.int k a=.int k b:=by rw[h]
theorem zqp(c:C.Cpu)(w:World):Calls prog 286 #[gx c] w λe w'=>e=.returned (.int .u16 (fe (je c) 5))/\Below w.heap.size w w':=by
 go_enter func286,ntmps286;go_wp2
 go_loop [3,17] (λs i=>∃ k:Nat,k<=5/\i=.int .i64 k/\s=.int .u16 (fe (je c) k)) (λ_ i=>5-(intOf i).toNat)
 case atStart=>exact⟨0,by omega,U,U⟩
 case round =>
  obtain⟨k,g,rfl,rfl⟩:=hrel;have hc:k=0 \/ k=1 \/ k=2 \/ k=3 \/ k=4 \/ k=5:=by omega
  rcases hc with rfl|rfl|rfl|rfl|rfl|rfl
  ·have i0:=zxt
   by_cases a:c.Z=true
   ·have d:=hid (tC (b:=je c) (k:=0) a)
    go_wp2
    go_round
    case rel=>exact⟨_,_,_,_,⟨1,by omega,by go_num,j8 ((tB (je c) 0 (by omega) _ (by decide)).trans d.out.symm)⟩,U,U,U,U⟩
    case measure=>simp[intOf]
   ·have f:c.Z=false:=by simpa using a
    have d:=hid (tD (b:=je c) (k:=0) f);clear a;go_wp2
    go_round
    case rel=>exact⟨_,_,_,_,⟨1,by omega,by go_num,j8 d.out.symm⟩,U,U,U,U⟩
    case measure=>simp[intOf]
  ·have i0:=zxu
   by_cases a:c.N=true
   ·have d:=hid (tC (b:=je c) (k:=1) a)
    go_wp2
    go_round
    case rel=>exact⟨_,_,_,_,⟨2,by omega,by go_num,j8 ((tB (je c) 1 (by omega) _ (by decide)).trans d.out.symm)⟩,U,U,U,U⟩
    case measure=>simp[intOf]
   ·have f:c.N=false:=by simpa using a
    have d:=hid (tD (b:=je c) (k:=1) f);clear a;go_wp2
    go_round
    case rel=>exact⟨_,_,_,_,⟨2,by omega,by go_num,j8 d.out.symm⟩,U,U,U,U⟩
    case measure=>simp[intOf]
  ·have i0:=zxv
   by_cases a:c.C=true
   ·have d:=hid (tC (b:=je c) (k:=2) a)
    go_wp2
    go_round
    case rel=>exact⟨_,_,_,_,⟨3,by omega,by go_num,j8 ((tB (je c) 2 (by omega) _ (by decide)).trans d.out.symm)⟩,U,U,U,U⟩
    case measure=>simp[intOf]
   ·have f:c.C=false:=by simpa using a
    have d:=hid (tD (b:=je c) (k:=2) f);clear a;go_wp2
    go_round
    case rel=>exact⟨_,_,_,_,⟨3,by omega,by go_num,j8 d.out.symm⟩,U,U,U,U⟩
    case measure=>simp[intOf]
  ·have i0:=zxw
   by_cases a:c.V=true
   ·have d:=hid (tC (b:=je c) (k:=3) a)
    go_wp2
    go_round
    case rel=>exact⟨_,_,_,_,⟨4,by omega,by go_num,j8 ((tB (je c) 3 (by omega) _ (by decide)).trans d.out.symm)⟩,U,U,U,U⟩
    case measure=>simp[intOf]
   ·have f:c.V=false:=by simpa using a
    have d:=hid (tD (b:=je c) (k:=3) f);clear a;go_wp2
    go_round
    case rel=>exact⟨_,_,_,_,⟨4,by omega,by go_num,j8 d.out.symm⟩,U,U,U,U⟩
    case measure=>simp[intOf]
  ·have i0:=zxx
   by_cases a:c.May=true
   ·have d:=hid (tC (b:=je c) (k:=4) a)
    go_wp2
    go_round
    case rel=>exact⟨_,_,_,_,⟨5,by omega,by go_num,j8 ((tB (je c) 4 (by omega) _ (by decide)).trans d.out.symm)⟩,U,U,U,U⟩
    case measure=>simp[intOf]
   ·have f:c.May=false:=by simpa using a
    have d:=hid (tD (b:=je c) (k:=4) f);clear a;go_wp2
    go_round
    case rel=>exact⟨_,_,_,_,⟨5,by omega,by go_num,j8 d.out.symm⟩,U,U,U,U⟩
    case measure=>simp[intOf]
  ·go_wp2
   go_ret;exact⟨U,stA (J _) _⟩
theorem zs7(c:C.Cpu)(w:World):Calls prog 286 #[gx c] w λe w'=>e=.returned (.int .u16 (C.sign c))/\Below w.heap.size w w':=by
 rw[<- zvP];exact zqp c w
section
variable {σ : Type} {m : C.Mem σ} {B nr nw : Nat} {cr cw : Array Value × Array Value} {I : World -> σ -> Prop} {T : σ -> Nat -> Prop}
theorem zjF(R:RS m B nr nw cr cw I T)(a:Int)(P:0<=a)(E:a<=65535)(w:World)(p:Nat)(x:C.St σ)(i:4<=m.fuel x.s)(j:PI B nr nw cr cw I T w p x):Calls prog 252 #[.pointer (some ⟨p,0,none⟩),.int .u16 a] w λe w'=>e=.returned (.tuple #[])/\PI B nr nw cr cw I T w' p (C.leave m x a)/\PM B T p x.s (C.leave m x a).s w w':=by
 obtain⟨c8,_,_,_,_,_,_,_,_,_⟩:=j.cells;have V:=j.lt;have y:=hid j;have b:=hid R;have N:=hid j.ok;have F:=hid i;have k:Hid (2<=m.fuel (C.push m x x.c.PC).s):=hid (by have:=R.fpush x x.c.PC;omega);clear j R i;go_enter func252,ntmps252;go_wp2_with (first
  | (go_at_call 285;first
      | (refine(ze9 b.out _ (C.sign_bd _).1 (eA (C.sign_bd _).2 (by omega)) _ p z k.out (l.out.kept b.out o)).mono ?_;rintro e w3 ⟨rfl,d,q⟩;generalize r:C.push m z (C.sign z.c)=t at d q;obtain⟨_,_,_,_,_,_,_,W,X,_⟩:=d.cells;have Y:=d.frozen 13;have Z:=d.frozen 14;have el:=d.lt;have g:=hid d;have H:=hid r;clear d r)
      | (refine(ze9 b.out _ N.out.2.2.1 N.out.2.2.2 _ p x (ax (by decide) F.out) y.out).mono ?_;rintro e w1 ⟨rfl,f,u⟩;generalize v:C.push m x x.c.PC=z at f u k;obtain⟨d8,d9,d10,d11,d12,d13,d14,d15,d16,d17⟩:=f.cells;obtain⟨d0,d1,d2,d3,d4,d5,d6,d7⟩:=f.regs;have dl:=f.lt;have l:=hid f;have L:=hid v;clear f v))
  | (go_at_call 286;refine(zs7 z.c _).mono ?_;rintro e w2 ⟨rfl,o⟩)
  | (go_at_call 131;refine(zc9 b.out a P E _ t.s ?_).mono ?_;(exact((g.out.putMay b.out false).putWaits b.out false).inv);rintro e w4 ⟨rfl,M,h⟩;obtain⟨k4,f4,z4⟩:=((g.out.putMay b.out false).putWaits b.out false).after h U))
 go_end0;have h1:=L.out;have h2:=H.out;have hE:C.leave m x a=⟨{ t.c with May:=false,Waits:=false,PC:=(m.rdw t.s a).1 },(m.rdw t.s a).2,t.n⟩:=by subst h1;subst h2;rfl
 rw[hE];exact⟨U,(((g.out.putMay b.out false).putWaits b.out false).movedS b.out M h U).putPC b.out _ (b.out.word _ _).1 (b.out.word _ _).2,(((((u.kept (l.out.hB b.out) o).trans q).set y.out.big 13 _).set y.out.big 14 _).moved h).set y.out.big 8 _⟩
theorem zda(w:World)(p:Nat)(r:Nat)(n v:Int)(b:r<8)(hc:w.cell? ⟨p,r,none⟩=some (.int .u16 v))(a:p<w.heap.size):Calls prog 293 #[.pointer (some ⟨p,0,none⟩),.int .i64 r,.int .i64 n] w λe w'=>e=.returned (.int .u16 ((v+n)%65536))/\w'=w:=by
 have c:(0:Int)<=r:=by omega
 have d:(r:Int)<8:=by omega
 go_enter func293,ntmps293;go_wp2;go_ret;exact⟨oZ (by rw[eh,eh];omega),U⟩
theorem zia(R:RS m B nr nw cr cw I T)(w:World)(p:Nat)(x:C.St σ)(b:PI B nr nw cr cw I T w p x):Calls prog 287 #[.pointer (some ⟨p,0,none⟩)] w λe w'=>e=.returned (.int .u16 (m.rdw x.s x.c.PC).1)/\PI B nr nw cr cw I T w' p ⟨{ x.c with PC:=(x.c.PC+2)%65536 },(m.rdw x.s x.c.PC).2,x.n⟩/\PM B T p x.s (m.rdw x.s x.c.PC).2 w w':=by
 obtain⟨r,_,_,_,_,_,_,l,o,_⟩:=b.cells;have q:=b.lt;have g:=hid b;have d:=hid R;have h:=hid b.ok;clear b R;go_enter func287,ntmps287;go_wp2;go_region_held3 (λw'=>w'.cell? ⟨p,8,none⟩=some (.int .u16 x.c.PC)/\w'.cell? ⟨p,15,none⟩=some (fw nr cr)/\w'.cell? ⟨p,16,none⟩=some (fw nw cw))
  ((go_keep;done))
  ((go_at_call 131;refine(zc9 d.out x.c.PC h.out.2.2.1 h.out.2.2.2 _ x.s ?_).mono ?_;(exact g.out.invS d.out U);rintro e w1 ⟨rfl,i,a⟩;obtain⟨t,f1,u⟩:=g.out.after a U))
 have f:=g.out.movedS d.out i a U;have j:=h.out.2.2;have k:=hid (f.putPC d.out ((x.c.PC+2)%65536) (by omega) (by omega));have v:=eh (x.c.PC+2);clear f j;go_wp2;go_ret;exact⟨U,k.out.same d.out U,((PM.refl B T p x.s w).drew.moved a).set g.out.big 8 _⟩
theorem tE(n:Int)(k:Nat)(a:0<=n)(h1:n<=65535)(b:k<16)(y:Int)(c:y=((2 ^ k:Nat):Int)):(bits .and .u16 n y != 0)=decide (n/((2 ^ k:Nat):Int)%2=1):=by
 obtain⟨N,rfl⟩:=aB a;have hp:2 ^ k<65536:=Nat.pow_lt_pow_right (by omega) b;rw[c,fg N (2 ^ k) (by omega) hp,M.and_pow,bX];have h2:0<2 ^ k:=Nat.pos_of_ne_zero (by simp);have e:((N:Int)/((2 ^ k:Nat):Int)%2=1) ↔ (N/2 ^ k%2=1):=by
  rw[<- Int.natCast_ediv];omega
 by_cases h:N/2 ^ k%2=1
 ·rw[aL (e.2 h),aL h]
  simp only[dL,jh,ne_eq];omega
 ·rw[aF (λx=>h (e.1 x)),aF h]
  simp
theorem zjG(R:RS m B nr nw cr cw I T)(w:World)(p:Nat)(x:C.St σ)(o:PI B nr nw cr cw I T w p x):Calls prog 319 #[.pointer (some ⟨p,0,none⟩)] w λe w'=>e=.returned (.tuple #[])/\PI B nr nw cr cw I T w' p (C.comeBack m x)/\PM B T p x.s (C.comeBack m x).s w w':=by
 have f:=hid o;have b:=hid R;have d:=hid (R.word x.s (x.c.r 7));clear o R;generalize h:C.comeBack m x=z;have t:=hid h;clear h;go_enter func319,ntmps319;go_wp2_with (first
  | (go_at_call 313;first
      | (refine(zh9 b.out _ p _ i.out).mono ?_;rintro e w2 ⟨rfl,a,j⟩;have F:=a.frozen;have H:=a.lt;have k:=a.cells;obtain⟨L,M,u,v,y,E,_,_,_,_⟩:=a.cells;have l:=hid a;clear a k)
      | (refine(zh9 b.out _ p x f.out).mono ?_;rintro e w1 ⟨rfl,g,n⟩;have i:=hid g;clear g)))
 go_end0;have h:=t.out;subst h;have b0:=tE (C.popV m x) 0 d.out.1 d.out.2 (by omega) 1 U;have b1:=tE (C.popV m x) 1 d.out.1 d.out.2 (by omega) 2 U;have b2:=tE (C.popV m x) 2 d.out.1 d.out.2 (by omega) 4 U;have b3:=tE (C.popV m x) 3 d.out.1 d.out.2 (by omega) 8 U;have q:=tE (C.popV m x) 4 d.out.1 d.out.2 (by omega) 16 U;rw[show ((2 ^ 0:Nat):Int)=1 from U,Int.ediv_one] at b0;rw[show ((2 ^ 1:Nat):Int)=2 from U] at b1;rw[show ((2 ^ 2:Nat):Int)=4 from U] at b2;rw[show ((2 ^ 3:Nat):Int)=8 from U] at b3;rw[show ((2 ^ 4:Nat):Int)=16 from U] at q;rw[b0,b1,b2,b3,q];exact⟨U,(((((l.out.putPC b.out _ (b.out.word _ _).1 (b.out.word _ _).2).putZ b.out _).putN b.out _).putC b.out _).putV b.out _).putMay b.out _,
  ((((((n.trans j).set f.out.big 8 _).set f.out.big 9 _).set f.out.big 10 _).set f.out.big 11 _).set f.out.big 12 _).set f.out.big 13 _⟩
end
structure Vc where
 p:Int
 c:Int
 l:Int
 h:Bool
 n:Int
def nz(n:Int):Int:=if n%2=1 then bits .xor .u16 (n/2) 46080 else n/2
def qd(h:Bool)(n:Int):Bool:=if n=0 then !h else decide (n%2=1)
def oI(n:Int):Int:=if n=0 then 0 else nz n
def gv(n:Int):Nat->Int
 | 0=>n
 | k+1=>oI (gv n k)
def iT(h:Bool)(n:Int):Nat->Bool
 | 0=>h
 | k+1=>qd (iT h n k) (gv n k)
def Vc.tick(v:Vc):Vc:=if v.c=0 then ⟨v.p,v.p,v.l,qd v.h v.n,oI v.n⟩ else ⟨v.p,v.c-1,v.l,v.h,v.n⟩
def Vc.ticks(v:Vc):Nat->Vc
 | 0=>v
 | k+1=>(v.ticks k).tick
def lT(p c n:Int):Int:=if n<c+1 then c-n else p-(n-(c+1))%(p+1)
def ltK(p c n:Int):Nat:=if n<c+1 then 0 else (1+(n-(c+1))/(p+1)).toNat
def Vc.later(v:Vc)(n:Int):Vc:=⟨v.p,lT v.p v.c n,v.l,iT v.h v.n (ltK v.p v.c n),gv v.n (ltK v.p v.c n)⟩
structure Vc.ok (v : Vc) : Prop where
 p:0<=v.p/\v.p<=65535
 c:0<=v.c/\v.c<=65535
 l:0<=v.l/\v.l<=255
 n:0<=v.n/\v.n<=65535
theorem zs3(m k:Int)(b:0<=m)(a:0<k):(m+1)%k=(if m%k=k-1 then 0 else m%k+1)/\(m+1)/k=(if m%k=k-1 then m/k+1 else m/k):=by
 have h1:=gZ m (show k≠0 by omega);have h2:=fT m a;have c:=Int.emod_add_mul_ediv m k;have e:m+1=(m%k+1)+k*(m/k):=by omega
 split
 ·rename_i h
  have e2:m+1=0+k*(m/k+1):=by rw[Int.mul_add];omega
  rw[e2,iD,jE _ _ (by omega)];simp
 ·rw[e,iD,jE _ _ (by omega),Int.emod_eq_of_lt (by omega) (by omega),mC (by omega) (by omega)]
  simp
theorem vZ(n:Int)(h:0<=n/\n<=65535):0<=nz n/\nz n<=65535:=by
 unfold nz;split
 ·exact M.xor_bd _ _ (by omega) (by omega) (by omega) (by omega)
 ·omega
theorem we(n:Int)(h:0<=n/\n<=65535)(c:n≠0):nz n≠0:=by
 unfold nz;split
 ·obtain⟨X,a⟩:=aB (show 0<=n/2 by omega)
  rw[a,show (46080:Int)=((46080:Nat):Int) from U,jT _ _ (by omega) (by omega)];have hb:(X ^^^ 46080).testBit 15=true:=by
   rw[gV,M.top X (by omega),M.top 46080 (by omega),aF (show ¬ 32768<=X by omega)];rfl
  intro e;have b:X ^^^ 46080=0:=by omega
  rw[b] at hb;simp at hb
 ·omega
theorem zuZ(n:Int)(h:0<=n/\n<=65535):0<=oI n/\oI n<=65535:=by
 unfold oI;split
 ·omega
 ·exact vZ n h
theorem zqa(n:Int)(h:0<=n/\n<=65535)(k:Nat):0<=gv n k/\gv n k<=65535:=by
 induction k with
 | zero=>exact h
 | succ k a=>exact zuZ _ a
theorem zjy(k:Nat):gv 0 k=0:=by
 induction k with
 | zero=>rfl
 | succ k a=>rw[gv,a];rfl
theorem zvD(n:Int)(h:0<=n/\n<=65535)(b:n≠0)(k:Nat):gv n k≠0:=by
 induction k with
 | zero=>exact b
 | succ k a =>
  rw[gv];unfold oI;rw[G a];exact we _ (zqa n h k) a
theorem zqb(h:Bool)(k:Nat):iT h 0 k=(h != (k%2 == 1)):=by
 induction k with
 | zero=>simp[iT]
 | succ k a =>
  rw[iT,zjy,a];unfold qd;rw[Q U];by_cases h2:k%2=1
  ·have h3:(k+1)%2=0:=by omega
   rw[h2,h3];cases h <;> rfl
  ·have h3:(k+1)%2=1:=by omega
   have h4:k%2=0:=by omega
   rw[h4,h3];cases h <;> rfl
theorem Vc.tick_ok{v:Vc}(h:v.ok):v.tick.ok:=by
 unfold Vc.tick;split
 ·exact⟨h.p,h.p,h.l,zuZ _ h.n⟩
 ·exact⟨h.p,⟨by have:=h.c;simp only;omega,by have:=h.c;simp only;omega⟩,h.l,h.n⟩
theorem Vc.later_tick(v:Vc)(h:v.ok)(n:Int)(d:0<=n):(v.later n).tick=v.later (n+1):=by
 obtain⟨p,c,l,hi,f⟩:=v;obtain⟨hp,hc,b,a⟩:=h;simp only at hp hc b a;unfold Vc.tick Vc.later;simp only;by_cases h1:n+1<c+1
 ·have h2:n<c+1:=by omega
  have e1:lT p c n=c-n:=by unfold lT;rw[Q h2]
  have e2:lT p c (n+1)=c-n-1:=by unfold lT;rw[Q h1];omega
  have e3:ltK p c n=0:=by unfold ltK;rw[Q h2]
  have e4:ltK p c (n+1)=0:=by unfold ltK;rw[Q h1]
  rw[e1,e2,e3,e4,G (by omega)]
 ·by_cases h2:n<c+1
  ·have e1:lT p c n=0:=by unfold lT;rw[Q h2];omega
   have e5:n+1-(c+1)=0:=by omega
   have e2:lT p c (n+1)=p:=by unfold lT;rw[G h1,e5];simp
   have e3:ltK p c n=0:=by unfold ltK;rw[Q h2]
   have e4:ltK p c (n+1)=1:=by unfold ltK;rw[G h1,e5];simp
   rw[e1,e2,e3,e4,Q U];rfl
  ·have e:n+1-(c+1)=(n-(c+1))+1:=by omega
   obtain⟨s1,s2⟩:=zs3 (n-(c+1)) (p+1) (by omega) (by omega);have b1:=gZ (n-(c+1)) (show p+1≠0 by omega);have b2:=fT (n-(c+1)) (show 0<p+1 by omega);have b3:0<=(n-(c+1))/(p+1):=fH (by omega) (by omega);have e1:lT p c n=p-(n-(c+1))%(p+1):=by unfold lT;rw[G h2]
   have e3:ltK p c n=(1+(n-(c+1))/(p+1)).toNat:=by unfold ltK;rw[G h2]
   have e2:lT p c (n+1)=p-(n-(c+1)+1)%(p+1):=by unfold lT;rw[G h1,e]
   have e4:ltK p c (n+1)=(1+(n-(c+1)+1)/(p+1)).toNat:=by unfold ltK;rw[G h1,e]
   by_cases g:(n-(c+1))%(p+1)=p
   ·rw[s1,Q (by omega)] at e2
    rw[s2,Q (by omega)] at e4;have e5:ltK p c (n+1)=ltK p c n+1:=by rw[e3,e4];omega
    rw[e2,e5,e1,Q (by omega)];simp[iT,gv]
   ·rw[s1,G (by omega)] at e2
    rw[s2,G (by omega)] at e4;have e5:ltK p c (n+1)=ltK p c n:=by rw[e3,e4]
    rw[e2,e5,e1,G (by omega)];simp;omega
theorem Vc.later_zero(v:Vc)(h:v.ok):v.later 0=v:=by
 have hc:=h.c;have e1:lT v.p v.c 0=v.c:=by unfold lT;rw[Q (by omega)];omega
 have e2:ltK v.p v.c 0=0:=by unfold ltK;rw[Q (by omega)]
 unfold Vc.later;rw[e1,e2];rfl
theorem Vc.later_ticks(v:Vc)(h:v.ok)(n:Nat):v.later n=v.ticks n:=by
 induction n with
 | zero=>exact v.later_zero h
 | succ n a=>rw[Vc.ticks,<- a,Vc.later_tick v h n (by omega)];simp
/-! ### sounds -/
structure Sd where
 a:Vc
 b:Vc
 c:Vc
 w:Int
structure Sd.ok (s : Sd) : Prop where
 a:s.a.ok
 b:s.b.ok
 c:s.c.ok
structure Sd.fit (s : Sd) : Prop extends s.ok where
 w:0<=s.w/\s.w<=15
def Sd.tick(s:Sd):Sd:=⟨s.a.tick,s.b.tick,s.c.tick,if s.w=0 then 15 else s.w-1⟩
def Sd.ticks(s:Sd):Nat->Sd
 | 0=>s
 | k+1=>(s.ticks k).tick
def ld(v:Vc):Int:=if v.h then v.l%16 else 0
def lu(s:Sd):Int:=ld s.a+ld s.b+ld s.c
def sm(s:Sd):UInt8:=UInt8.ofNat (lu s).toNat
def one(s:Sd):List UInt8:=if s.w=0 then [sm s] else []
def ku(s:Sd):Nat->List UInt8
 | 0=>[]
 | k+1=>ku s k++one (s.ticks k)
theorem kx(v:Vc):0<=ld v/\ld v<=15:=by unfold ld;split <;> omega
theorem zu0(s:Sd):0<=lu s/\lu s<=45:=by
 have:=kx s.a;have:=kx s.b;have:=kx s.c;unfold lu;omega
theorem zu1(s:Sd):((sm s).toNat:Int)=lu s:=by
 have:=zu0 s;unfold sm;rw[kq];omega
theorem Sd.tick_fit{s:Sd}(h:s.fit):s.tick.fit:=by
 refine⟨⟨Vc.tick_ok h.a,Vc.tick_ok h.b,Vc.tick_ok h.c⟩,?_⟩;have:=h.w;unfold Sd.tick;simp only;split <;> omega
theorem Sd.ticks_fit{s:Sd}(h:s.fit)(k:Nat):(s.ticks k).fit:=by
 induction k with
 | zero=>exact h
 | succ k a=>exact Sd.tick_fit a
theorem Sd.ticks_add(s:Sd)(a b:Nat):(s.ticks a).ticks b=s.ticks (a+b):=by
 induction b with
 | zero=>rfl
 | succ b c=>rw[Sd.ticks,c];rfl
theorem zvE(s:Sd)(a b:Nat):ku s (a+b)=ku s a++ku (s.ticks a) b:=by
 induction b with
 | zero=>simp[ku]
 | succ b c =>
  show ku s (a+b)++one (s.ticks (a+b))=_;rw[c,<- Sd.ticks_add,bp];rfl
theorem zqc(s:Sd)(k:Nat):(ku s k).length<=k:=by
 induction k with
 | zero=>simp[ku]
 | succ k a =>
  simp only[ku,aC];have:(one (s.ticks k)).length<=1:=by unfold one;split <;> simp
  omega
theorem Sd.ticks_parts(s:Sd)(k:Nat):(s.ticks k).a=s.a.ticks k/\(s.ticks k).b=s.b.ticks k/\(s.ticks k).c=s.c.ticks k:=by
 induction k with
 | zero=>exact⟨U,U,U⟩
 | succ k d=>exact⟨by show (s.ticks k).a.tick=_;rw[d.1];rfl,by show (s.ticks k).b.tick=_;rw[d.2.1];rfl,by show (s.ticks k).c.tick=_;rw[d.2.2];rfl⟩
def wt(s:Sd):Int:=if s.w=0 then 16 else s.w
theorem Sd.near{s:Sd}(h:s.fit)(m:Nat)(h1:1<=m)(d:(m:Int)<=wt s):(s.ticks m).w=wt s-m/\ku s m=one s:=by
 have e:=h.w;induction m with
 | zero=>omega
 | succ m a =>
  by_cases b:m=0
  ·subst b
   refine⟨?_,by simp[ku,Sd.ticks]⟩;unfold wt;simp only[Sd.ticks,Sd.tick];by_cases c:s.w=0 <;> simp[c]
  ·obtain⟨e1,e2⟩:=a (by omega) (by omega)
   have e3:(s.ticks m).w≠0:=by rw[e1];omega
   refine⟨?_,?_⟩
   ·simp only[Sd.ticks,Sd.tick]
    rw[G e3,e1];omega
   ·rw[ku,e2];unfold one;rw[G e3];simp
def Sd.go(s:Sd)(m:Int):Sd:=⟨s.a.later m,s.b.later m,s.c.later m,wt s-m⟩
theorem Sd.go_ticks{s:Sd}(h:s.fit)(m:Nat)(h1:1<=m)(d:(m:Int)<=wt s):s.go m=s.ticks m:=by
 obtain⟨e1,e2,e3⟩:=Sd.ticks_parts s m;unfold Sd.go;rw[Vc.later_ticks _ h.a,Vc.later_ticks _ h.b,Vc.later_ticks _ h.c,<- (Sd.near h m h1 d).1,<- e1,<- e2,<- e3]
theorem wg{s:Sd}(h:s.fit):1<=wt s/\wt s<=16:=by have:=h.w;unfold wt;split <;> omega
structure Bx (W : World) (b : Nat) (L : List Value) : Prop where
 z:b<W.heap.size
 c:W.rangeAt b 0 L
 f:∀ o,W.frozen? ⟨b,o,none⟩=false
section
variable {W w1 : World} {b : Nat} {L : List Value}
theorem Bx.at(h:Bx W b L)(i:Nat)(v:Value)(e:L[i]?=some v):W.cell? ⟨b,i,none⟩=some v:=by have:=h.c i v e;rwa [aN] at this
theorem Bx.kept(h:Bx W b L)(hb:Below W.heap.size W w1):Bx w1 b L :=
 ⟨ap h.z hb.size,λj v a=>(hb.cell (p:=⟨b,0+j,none⟩) h.z).trans (h.c j v a),λo=>(hb.frozen (p:=⟨b,o,none⟩) h.z).trans (h.f o)⟩
theorem Bx.under{n:Nat}(h:Bx W b L)(hb:Below n W w1)(a:b<n):Bx w1 b L :=
 ⟨ap h.z hb.size,λj v d=>(hb.cell (p:=⟨b,0+j,none⟩) a).trans (h.c j v d),λo=>(hb.frozen (p:=⟨b,o,none⟩) a).trans (h.f o)⟩
theorem Bx.over(h:Bx W b L)(o:Obj):Bx (W.alloc o) b L:=h.kept (stA (J W) o)
theorem Bx.drew(h:Bx W b L):Bx W.drew b L:=⟨h.z,h.c,h.f⟩
theorem Bx.new(W:World)(L:List Value)(t:TypeId){b:Nat}(hb:b=W.heap.size):Bx (W.alloc (.cells L.toArray t)) b L:=by
 subst hb;exact⟨by simp,λj v a=>(Pl.new _ _ _ _ U).trans (by rw[aN];simpa using a),λo=>Lib.frozen_of_heap (aJ W _) o⟩
theorem Bx.far(h:Bx W b L){b' o':Nat}(a:b'≠b)(v:Value):Bx (W.setCell ⟨b',o',none⟩ v) b L :=
 ⟨by simpa using h.z,λj x d=>(World.cell?_setCell_far W _ _ v a).trans (h.c j x d),λo=>by simpa using h.f o⟩
theorem Bx.set(h:Bx W b L)(i:Nat)(v:Value)(hi:i<L.length):Bx (W.setCell ⟨b,i,none⟩ v) b (L.set i v):=by
 refine⟨by simpa using h.z,λj x a=>?_,λo=>by simpa using h.f o⟩;rw[aN];by_cases e:i=j
 ·subst e
  rw[dB hi] at a;have c:(W.cell? ⟨b,i,none⟩).isSome:=by rw[h.at i _ (au hi)];rfl
  rw[<- a];exact fs _ _ _ c
 ·rw[fh e] at a
  exact(az _ _ _ _ (by intro x;exact e (congrArg Addr.off x))).trans (h.at j x a)
def gN(L:List Value)(o:Nat):List Value->List Value
 | []=>L
 | v::vs=>gN (L.set o v) (o+1) vs
theorem Bx.puts(h:Bx W b L)(o:Nat)(vs:List Value)(a:o+vs.length<=L.length):Bx (W.setCells b o vs) b (gN L o vs):=by
 induction vs generalizing W L o with
 | nil=>exact h
 | cons v vs c =>
  simp only[bR] at a;exact c (h.set o v (by omega)) (o+1) (by simp;omega)
theorem Bx.fars(h:Bx W b L){b':Nat}(a:b'≠b)(o:Nat)(vs:List Value):Bx (W.setCells b' o vs) b L:=by
 induction vs generalizing W o with
 | nil=>exact h
 | cons v vs c=>exact c (h.far a v) (o+1)
theorem Bx.mid(h:Bx W b L)(o n:Nat):W.rangeAt b o ((L.drop o).take n):=λj v c=>by
 have a:(L.drop o)[j]?=some v:=by
  rw[dI] at c;split at c
  ·exact c
  ·cases c
 rw[fQ] at a;exact h.at (o+j) v a
theorem Bx.there(h:Bx W b L)(o n:Nat)(a:o+n<=L.length):W.there b o n:=λj c=>by
 refine⟨?_,h.f _⟩;rw[h.at (o+j) _ (au (by omega))];rfl
end
theorem Bl.set{w W:World}{b o:Nat}(h:Below w.heap.size w W)(hb:w.heap.size<=b)(v:Value):Below w.heap.size w (W.setCell ⟨b,o,none⟩ v):=h.setCell hb v
theorem Bl.puts{w W:World}{b o:Nat}(h:Below w.heap.size w W)(hb:w.heap.size<=b)(vs:List Value):Below w.heap.size w (W.setCells b o vs):=Pl.below hb vs o W h
theorem Pl.cutL{P:Program}{ops:Array Oper}{rest:List Oper}{aj:Exit->Act->World->Prop}{a:Act}{w:World}(K:World->Prop)(h:K w)(k:∀ w',K w'->wpList P ops aj rest a w'):wpList P ops aj rest a w:=k w h
theorem Pl.cutE{F:Exit->Act->World->Prop}{e:Exit}{a:Act}{w:World}(K:World->Prop)(h:K w)(k:∀ w',K w'->F e a w'):F e a w:=k w h
theorem Bl.drewN{B:Nat}{a w:World}(h:Below B a w)(n:Nat):Below B a (w.drewN n):=h.trans ⟨U,U,U,ak _,λ_ _=>rfl⟩
abbrev vL(p c l:Int)(h:Bool)(n:Int):List Value:=[.int .u16 p,.int .u16 c,.int .u8 l,.bool h,.int .u16 n]
theorem zos:(Tryz.prog.info? 33).map (·.size)=some 5:=by kernel_rfl
theorem zew(W:World)(q o:Nat)(p c l n:Int)(h:Bool)(a:W.rangeAt q o (vL p c l h n)):(loadVar 33 ⟨q,o,none⟩).run prog W=.ok (.agg #[.int .u16 p,.int .u16 c,.int .u8 l,.bool h,.int .u16 n]) W :=
 run_loadVar_mid W q o 33 _ _ a underlying33 rfl zos
theorem Bx.five{W:World}{b:Nat}{p c l n:Int}{h:Bool}(hB:Bx W b (vL p c l h n)):W.cell? ⟨b,0,none⟩=some (.int .u16 p)/\W.cell? ⟨b,1,none⟩=some (.int .u16 c)/\W.cell? ⟨b,2,none⟩=some (.int .u8 l)/\W.cell? ⟨b,3,none⟩=some (.bool h)/\W.cell? ⟨b,4,none⟩=some (.int .u16 n)/\b<W.heap.size /\ ∀ o,W.frozen? ⟨b,o,none⟩=false :=
 ⟨hB.at 0 _ rfl,hB.at 1 _ rfl,hB.at 2 _ rfl,hB.at 3 _ rfl,hB.at 4 _ rfl,hB.z,hB.f⟩
theorem Bx.put5{W:World}{b:Nat}{L:List Value}(hB:Bx W b L)(a:L.length=5)(p c l n:Int)(h:Bool):Bx (((((W.setCell ⟨b,0,none⟩ (.int .u16 p)).setCell ⟨b,1,none⟩ (.int .u16 c)).setCell ⟨b,2,none⟩ (.int .u8 l)).setCell ⟨b,3,none⟩ (.bool h)).setCell ⟨b,4,none⟩ (.int .u16 n)) b (vL p c l h n):=by
 have:=hB.puts 0 (vL p c l h n) (by rw[a];simp);have e:gN L 0 (vL p c l h n)=vL p c l h n:=by
  match L,a with
  | [_,_,_,_,_],_=>rfl
 rw[e] at this;exact this
theorem Bl.put5{w W:World}{b:Nat}(hB:Below w.heap.size w W)(hb:w.heap.size<=b)(p c l n:Int)(h:Bool):Below w.heap.size w (((((W.setCell ⟨b,0,none⟩ (.int .u16 p)).setCell ⟨b,1,none⟩ (.int .u16 c)).setCell ⟨b,2,none⟩ (.int .u8 l)).setCell ⟨b,3,none⟩ (.bool h)).setCell ⟨b,4,none⟩ (.int .u16 n)) :=
 Bl.puts (o:=0) hB hb (vL p c l h n)
theorem zvF(x:Int)(h:0<=x/\x<=65535):(bits .and .u16 x 1 == 1)=decide (x%2=1):=M.bit_of x h.1 h.2
structure SwW (w : World) (p c l n : Int) (h : Bool) (j : Nat) (W : World) : Prop where
 low:Below w.heap.size w W
 v:Bx W w.heap.size (vL p c l (iT h n j) (gv n j))
 r:Bx W (w.heap.size+1) (vL 0 0 0 false 0)
theorem zlE(p c l n:Int)(h:Bool)(k:Nat)(w:World)(s:0<=n/\n<=65535)(t:n≠0)(F:k<=20001):Calls prog 204 #[.agg #[.int .u16 p,.int .u16 c,.int .u8 l,.bool h,.int .u16 n],.int .i64 k] w λe w'=>e=.returned (.agg #[.int .u16 p,.int .u16 c,.int .u8 l,.bool (iT h n k),.int .u16 (gv n k)])/\Below w.heap.size w w':=by
 have x:(n == 0)=false:=by simpa using t
 go_enter func204,ntmps204;go_wp2;go_loopw [17] (λi wr=>∃ j:Nat,j<=k/\i=.int .i64 j/\SwW w p c l n h j wr) (λi _=>k-(intOf i).toNat)
 case atStart=>exact⟨0,aU _,U,stA (stA (J w) _) _,(Bx.new w (vL p c l h n) _ U).over _,Bx.new _ (vL 0 0 0 false 0) _ (by simp)⟩
 case round =>
  obtain⟨j,H,rfl,f⟩:=hrel;have d:=hid f;have y:=zqa n s j;have a:=zvD n s t j;obtain⟨t0,I,t2,t3,t4,L,tf⟩:=f.v.five;clear f;by_cases u:j<k
  ·have z:(j:Int)<k:=by omega
   have hb:=zvF _ y;by_cases hp:gv n j%2=1
   ·rw[aL hp] at hb
    have e1:gv n (j+1)=bits .xor .u16 (gv n j/2) 46080:=by rw[gv];unfold oI nz;rw[G a,Q hp]
    have e2:iT h n (j+1)=true:=by rw[iT];unfold qd;rw[G a,aL hp]
    have g:=hid e1;have m:=hid e2;have B:=hid hp;have E:=hid a;clear e1 e2 hp a;go_wp2
    go_roundw
    case rel =>
     refine⟨j+1,u,by go_num,?_,?_,?_⟩
     ·exact Bl.set (Bl.set (Bl.set d.out.low (ak _) _) (ak _) _) (ak _) _
     ·rw[g.out,m.out]
      exact((d.out.v.set 3 _ (by simp)).set 4 _ (by simp)).set 4 _ (by simp)
     ·exact((d.out.r.far (by omega) _).far (by omega) _).far (by omega) _
    case measure=>simp[intOf];omega
   ·rw[aF hp] at hb
    have e1:gv n (j+1)=gv n j/2:=by rw[gv];unfold oI nz;rw[G a,G hp]
    have e2:iT h n (j+1)=false:=by rw[iT];unfold qd;rw[G a,aF hp]
    have g:=hid e1;have m:=hid e2;have B:=hid hp;have E:=hid a;clear e1 e2 hp a;go_wp2
    go_roundw
    case rel =>
     refine⟨j+1,u,by go_num,?_,?_,?_⟩
     ·exact Bl.set (Bl.set d.out.low (ak _) _) (ak _) _
     ·rw[g.out,m.out]
      exact(d.out.v.set 3 _ (by simp)).set 4 _ (by simp)
     ·exact(d.out.r.far (by omega) _).far (by omega) _
    case measure=>simp[intOf];omega
  ·obtain rfl:j=k:=by omega
   clear a;obtain⟨r0,r1,r2,r3,r4,M,N⟩:=d.out.r.five;go_wp2;have o:=d.out.r.put5 U p c l (gv n j) (iT h n j);have q:=Bl.put5 (b:=w.heap.size+1) d.out.low (by omega) p c l (gv n j) (iT h n j);refine Pl.cutB (λY=>Below w.heap.size w Y/\Y.rangeAt (w.heap.size+1) 0 (vL p c l (iT h n j) (gv n j))) ⟨q,o.c⟩ ?_;rintro Y ⟨q,o⟩;exact ao (v:=.agg _) (by simp only[results,results204];simp;exact zew _ _ _ _ _ _ _ _ o) U ⟨U,q⟩
theorem zjA(p c l:Int)(h:Bool)(k:Nat)(w:World)(a:k<=20001):Calls prog 204 #[.agg #[.int .u16 p,.int .u16 c,.int .u8 l,.bool h,.int .u16 0],.int .i64 k] w λe w'=>e=.returned (.agg #[.int .u16 p,.int .u16 c,.int .u8 l,.bool (iT h 0 k),.int .u16 (gv 0 k)])/\Below w.heap.size w w':=by
 rw[zqb,zjy];have e:(!(h == ((k:Int)%2 == 1)))=(h != (k%2 == 1)):=by
  by_cases h2:k%2=1
  ·have h3:(k:Int)%2=1:=by omega
   rw[h2,h3];cases h <;> rfl
  ·have h3:(k:Int)%2=0:=by omega
   have h4:k%2=0:=by omega
   rw[h4,h3];cases h <;> rfl
 have E:=hid e;clear e;go_enter func204,ntmps204;go_wp2;rw[E.out];refine ao (v:=.agg _) (by simp[results,results204,go_sem]) U ⟨U,?_⟩;exact(stA (stA (J _) _) _)
theorem zqd(p c l n:Int)(h:Bool)(k:Nat)(w:World)(d:0<=n/\n<=65535)(a:k<=20001):Calls prog 204 #[.agg #[.int .u16 p,.int .u16 c,.int .u8 l,.bool h,.int .u16 n],.int .i64 k] w λe w'=>e=.returned (.agg #[.int .u16 p,.int .u16 c,.int .u8 l,.bool (iT h n k),.int .u16 (gv n k)])/\Below w.heap.size w w':=by
 by_cases b:n=0
 ·subst b;exact zjA p c l h k w a
 ·exact zlE p c l n h k w d b a
theorem wk{W:World}{b:Nat}{x v:Value}(h:W.cell? ⟨b,0,none⟩=some x):(W.setCell ⟨b,1,none⟩ v).drew.cell? ⟨b,0,none⟩=some x :=
 (az _ _ _ _ (by intro e;exact absurd (congrArg Addr.off e) (show (1:Nat)≠0 by decide))).trans h
theorem wm{W w1:World}{b:Nat}{p c l n:Int}{h:Bool}(hc:W.cell? ⟨b,0,none⟩=some (.int .u16 p)/\W.cell? ⟨b,1,none⟩=some (.int .u16 c)/\W.cell? ⟨b,2,none⟩=some (.int .u8 l)/\W.cell? ⟨b,3,none⟩=some (.bool h)/\W.cell? ⟨b,4,none⟩=some (.int .u16 n))(hb:Below W.heap.size W w1):w1.cell? ⟨b,0,none⟩=some (.int .u16 p)/\w1.cell? ⟨b,1,none⟩=some (.int .u16 c)/\w1.cell? ⟨b,2,none⟩=some (.int .u8 l)/\w1.cell? ⟨b,3,none⟩=some (.bool h)/\w1.cell? ⟨b,4,none⟩=some (.int .u16 n):=by
 have a:=aG W _ hc.1;exact⟨(hb.cell (p:=⟨b,0,none⟩) a).trans hc.1,(hb.cell (p:=⟨b,1,none⟩) a).trans hc.2.1,(hb.cell (p:=⟨b,2,none⟩) a).trans hc.2.2.1,(hb.cell (p:=⟨b,3,none⟩) a).trans hc.2.2.2.1,(hb.cell (p:=⟨b,4,none⟩) a).trans hc.2.2.2.2⟩
structure V2 (w : World) (p c l n : Int) (h : Bool) (W : World) : Prop where
 low:Below w.heap.size w W
 v:Bx W w.heap.size (vL p c l h n)
 r:Bx W (w.heap.size+1) (vL 0 0 0 false 0)
theorem V2.start(w:World)(p c l n:Int)(h:Bool)(q:Nat):V2 w p c l n h (((w.alloc (.cells (vL p c l h n).toArray 33)).alloc (.cells (vL 0 0 0 false 0).toArray 33)).drewN q):=by
 have a:V2 w p c l n h ((w.alloc (.cells (vL p c l h n).toArray 33)).alloc (.cells (vL 0 0 0 false 0).toArray 33)):=⟨stA (stA (J w) _) _,(Bx.new w (vL p c l h n) _ U).over _,Bx.new _ (vL 0 0 0 false 0) _ (by simp)⟩
 have b:=Bl.drewN (aW ((w.alloc (.cells (vL p c l h n).toArray 33)).alloc (.cells (vL 0 0 0 false 0).toArray 33)).heap.size ((w.alloc (.cells (vL p c l h n).toArray 33)).alloc (.cells (vL 0 0 0 false 0).toArray 33))) q;exact⟨bn a.low b,a.v.kept b,a.r.kept b⟩
theorem zqe(p c l n:Int)(h:Bool)(m:Int)(w:World)(hp:0<=p/\p<=65535)(hc:0<=c/\c<=65535)(x:0<=n/\n<=65535)(I:0<=m/\m<=20000):Calls prog 120 #[.agg #[.int .u16 p,.int .u16 c,.int .u8 l,.bool h,.int .u16 n],.int .i64 m] w λe w'=>e=.returned (.agg #[.int .u16 p,.int .u16 (lT p c m),.int .u8 l,.bool (iT h n (ltK p c m)),.int .u16 (gv n (ltK p c m))])/\Below w.heap.size w w':=by
 by_cases h1:m<c+1
 ·have e1:lT p c m=c-m:=by unfold lT;rw[Q h1]
  have e2:ltK p c m=0:=by unfold ltK;rw[Q h1]
  rw[e1,e2];show Calls prog 120 #[.agg #[.int .u16 p,.int .u16 c,.int .u8 l,.bool h,.int .u16 n],.int .i64 m] w λe w'=>e=.returned (.agg #[.int .u16 p,.int .u16 (c-m),.int .u8 l,.bool h,.int .u16 n])/\Below w.heap.size w w'
  clear e1 e2;go_enter func120,ntmps120;go_wp2;go_quiet (fail)
  refine Pl.cutE (V2 w p c l n h) (V2.start w p c l n h _) ?_;intro W a;obtain⟨t0,s,t2,t3,t4,t,tf⟩:=a.v.five;obtain⟨r0,r1,r2,r3,r4,y,z⟩:=a.r.five;have d:=hid a;clear a;go_wp2;have f:=(d.out.r.far (b':=w.heap.size) (o':=1) (by omega) (.int .u16 (c-m))).put5 U p (c-m) l n h;have g:=Bl.put5 (b:=w.heap.size+1) (Bl.set (o:=1) d.out.low (ak _) (.int .u16 (c-m))) (by omega) p (c-m) l n h;refine Pl.cutB (λY=>Below w.heap.size w Y/\Y.rangeAt (w.heap.size+1) 0 (vL p (c-m) l h n)) ⟨g,f.c⟩ ?_;rintro Y ⟨g,f⟩;exact ao (v:=.agg _) (by simp only[results,results120];simp;exact zew _ _ _ _ _ _ _ _ f) U ⟨U,g⟩
 ·have e1:lT p c m=p-(m-(c+1))%(p+1):=by unfold lT;rw[G h1]
  have e2:ltK p c m=(1+(m-(c+1))/(p+1)).toNat:=by unfold ltK;rw[G h1]
  have b1:=gZ (m-(c+1)) (show p+1≠0 by omega);have b2:=fT (m-(c+1)) (show 0<p+1 by omega);have b3:0<=(m-(c+1))/(p+1):=fH (by omega) (by omega);have L:(m-(c+1))/(p+1)<=m-(c+1):=gF _ (by omega);have M:IntKind.i64.wrap ((m-(c+1)).tmod (p+1))=(m-(c+1))%(p+1):=by rw[aq (by omega)];simp[IntKind.wrap,IntKind.bits,IntKind.signed];omega
  have N:IntKind.i64.wrap ((m-(c+1)).tdiv (p+1))=(m-(c+1))/(p+1):=by rw[aD (by omega)];simp[IntKind.wrap,IntKind.bits,IntKind.signed];omega
  have P:IntKind.u16.wrap ((m-(c+1))%(p+1))=(m-(c+1))%(p+1):=by rw[bc];omega
  have R:IntKind.u16.wrap (p-(m-(c+1))%(p+1))=p-(m-(c+1))%(p+1):=by rw[bc];omega
  have T:p+1≠0:=by omega
  have B:IntKind.i64.wrap (1+(m-(c+1))/(p+1))=1+(m-(c+1))/(p+1):=by simp[IntKind.wrap,IntKind.bits,IntKind.signed];omega
  have E:IntKind.i64.wrap ((m-(c+1))/(p+1))=(m-(c+1))/(p+1):=by simp[IntKind.wrap,IntKind.bits,IntKind.signed];omega
  have V:(m-(c+1)).tmod (p+1)=(m-(c+1))%(p+1):=aq (by omega);have X:(m-(c+1)).tdiv (p+1)=(m-(c+1))/(p+1):=aD (by omega);have u:(1+(m-(c+1))/(p+1))=((ltK p c m:Nat):Int):=by rw[e2];omega
  have F:ltK p c m<=20001:=by omega
  rw[e1];have H:=hid u;clear u e1 e2;go_enter func120,ntmps120;go_wp2;go_quiet (fail)
  refine Pl.cutE (V2 w p c l n h) (V2.start w p c l n h _) ?_;intro W a;obtain⟨t0,s,t2,t3,t4,t,tf⟩:=a.v.five;have d:=hid a;clear a;go_wp2;go_region_held3 (λw'=>w'.cell? ⟨w.heap.size,0,none⟩=some (.int .u16 p))
   (first
     | exact wk t0
     | (go_keep;done))
   (fail)
  refine Pl.cutE (V2 w p (p-(m-(c+1))%(p+1)) l n h) ⟨(Bl.set d.out.low (ak _) _).drew,(d.out.v.set 1 _ (by simp)).drew,(d.out.r.far (by omega) _).drew⟩ ?_;clear t0 s t2 t3 t4 t tf;intro W1 i;obtain⟨t0,s,t2,t3,t4,t,tf⟩:=i.v.five;have j:=hid i;clear i d;have q:=λW=>zqd p (p-(m-(c+1))%(p+1)) l n h (ltK p c m) W x F
  rw[<- H.out] at q;go_wp2;go_region_held3 (λw'=>w'.cell? ⟨w.heap.size,0,none⟩=some (.int .u16 p)/\w'.cell? ⟨w.heap.size,1,none⟩=some (.int .u16 (p-(m-(c+1))%(p+1)))/\w'.cell? ⟨w.heap.size,2,none⟩=some (.int .u8 l)/\w'.cell? ⟨w.heap.size,3,none⟩=some (.bool h)/\w'.cell? ⟨w.heap.size,4,none⟩=some (.int .u16 n))
   (first
     | with_reducible exact wm (by assumption) (by assumption)
     | (go_keep;done))
   ((go_at_call 204;refine(q _).mono ?_;rintro e w1 ⟨rfl,k⟩;obtain⟨r0,r1,r2,r3,r4,y,z⟩:=(j.out.r.drew.kept k).five))
  go_wp2;have f:=(j.out.r.drew.kept k).put5 U p (p-(m-(c+1))%(p+1)) l (gv n (ltK p c m)) (iT h n (ltK p c m));have g:=Bl.put5 (b:=w.heap.size+1) (bn j.out.low.drew k) (by omega) p (p-(m-(c+1))%(p+1)) l (gv n (ltK p c m)) (iT h n (ltK p c m));refine Pl.cutB (λY=>Below w.heap.size w Y/\Y.rangeAt (w.heap.size+1) 0 (vL p (p-(m-(c+1))%(p+1)) l (iT h n (ltK p c m)) (gv n (ltK p c m)))) ⟨g,f.c⟩ ?_;rintro Y ⟨g,f⟩;exact ao (v:=.agg _) (by simp only[results,results120];simp;exact zew _ _ _ _ _ _ _ _ f) U ⟨U,g⟩
def li(k:Nat):Prop:=k=7 \/ k=15 \/ k=8 \/ k=14 \/ k=9 \/ k=10 \/ k=11 \/ k=28
theorem zqq(k:Nat)(g:li k)(a b:Int)(w:World)(f:0<=a)(c:a<=65535)(hb:0<=b)(d:b<=65535):Calls prog 356 #[.int .i64 k,.int .u16 a,.int .u16 b] w λe w'=>e=.returned (.tuple #[.int .u16 (C.flN k a b),.bool (C.flN k a b == 0),.bool (decide (32768<=C.flN k a b)),.bool (C.flC k a b),.bool (C.flV k a b),.int .i64 0])/\Below w.heap.size w w':=by
 rcases g with rfl|rfl|rfl|rfl|rfl|rfl|rfl|rfl
 ·exact zvT a b w f c hb d
 ·exact zs8 a b w f c hb d
 ·exact zvU a b w f c hb d
 ·exact zs9 a b w f c hb d
 ·exact zvV a b w f c hb d
 ·exact zta a b w f c hb d
 ·exact ztb a b w f c hb d
 ·exact ztc a b w f c hb d
theorem znr(k:Nat)(f:li k)(a b:Int)(e:0<=a)(c:a<=65535)(hb:0<=b)(d:b<=65535):0<=C.flN k a b/\C.flN k a b<=65535:=by
 rcases f with rfl|rfl|rfl|rfl|rfl|rfl|rfl|rfl
 ·exact M.addN_bd a b
 ·exact M.addN_bd a b
 ·exact M.subN_bd a b
 ·exact M.subN_bd a b
 ·exact M.and_bd a b e c hb d
 ·exact M.or_bd a b e c hb d
 ·exact M.xor_bd a b e c hb d
 ·exact M.mulN_bd a b
abbrev iI(k d s:Nat)(n v:Int):Value:=.agg #[.int .i64 k,.int .i64 d,.int .i64 s,.int .i64 n,.int .i64 v]
section
variable {σ : Type} {m : C.Mem σ} {B nr nw : Nat} {cr cw : Array Value × Array Value} {I : World -> σ -> Prop} {T : σ -> Nat -> Prop}
theorem zez(R:RS m B nr nw cr cw I T)(k d s:Nat)(n v b:Int)(y:li k)(z:d<8)(hb:0<=b)(l:b<=65535)(w:World)(p:Nat)(x:C.St σ)(i:PI B nr nw cr cw I T w p x):Calls prog 304 #[.pointer (some ⟨p,0,none⟩),iI k d s n v,.int .u16 b] w λe w'=>e=.returned (.int .u16 (C.flN k (x.c.r d) b))/\PI B nr nw cr cw I T w' p (C.reckon x k (x.c.r d) b)/\PM B T p x.s x.s w w':=by
 have V:=i.reg d z;have E:=i.lt;have F:p≠w.heap.size:=by omega
 have t:p<w.heap.size+1:=by omega
 have u:=C.Cpu.r_bd i.ok d;have W:(0:Int)<=d:=by omega
 have X:(d:Int)<8:=by omega
 have g:=hid i;have h:=hid R;have H:=λw=>hid (zqq k y (x.c.r d) b w u.1 u.2 hb l)
 clear i R;unfold C.reckon C.signs;go_enter func304,ntmps304;go_wp2;go_region_held3 (λw'=>w'.cell? ⟨w.heap.size,0,none⟩=some (.int .i64 k)/\w'.cell? ⟨w.heap.size,1,none⟩=some (.int .i64 d)/\w'.cell? ⟨p,d,none⟩=some (.int .u16 (x.c.r d)))
  ((go_keep;done))
  ((go_at_call 356;refine(H _).out.mono ?_;rintro e w1 ⟨rfl,j⟩;obtain⟨L,f1⟩:=bQ j))
 have f:=bn (stA (J w) (.cells #[.int .i64 k,.int .i64 d,.int .i64 s,.int .i64 n,.int .i64 v] 191)).drew j;have a:=g.out.kept h.out f;obtain⟨_,Y,M,N,P,_,_,_,_,_⟩:=a.cells;have Z:=a.frozen;have el:=a.lt;have o:=hid a;have q:=hid f;clear a f L f1;go_wp2;go_ret;exact⟨U,(((o.out.putZ h.out _).putN h.out _).putC h.out _).putV h.out _,(((((PM.refl B T p x.s w).kept (g.out.hB h.out) q.out).set g.out.big 9 _).set g.out.big 10 _).set g.out.big 11 _).set g.out.big 12 _⟩
end
def mk(l:List UInt8):ByteArray:=⟨l.toArray⟩
theorem ri(l:List UInt8):(mk l).toList=l:=by rw[ByteArray.toList_eq];rfl
def dW(l:List UInt8):List Value:=l.map (λc=>Value.int .u8 c.toNat)
def mu(w:World)(g o:Nat)(l:List UInt8):Prop:=∀(j:Nat) (c:UInt8),l[j]?=some c->w.cell? ⟨g,o+j,none⟩=some (.int .u8 c.toNat)
theorem mu.kept{w w':World}{g o B:Nat}{l:List UInt8}(h:mu w g o l)(hb:Below B w w')(hB:g<B):mu w' g o l:=λj c a=>(hb.cell hB).trans (h j c a)
def sliceAt(w:World)(v:Value)(l:List UInt8):Prop:=(∃ a b,v=.slice a 0 b/\l=[]) \/ ∃ g o b,v=.slice (some ⟨g,o,none⟩) l.length b/\l.length<=b/\g<w.heap.size/\mu w g o l
theorem sliceAt.kept{w w':World}{v:Value}{l:List UInt8}(h:sliceAt w v l)(hb:Below w.heap.size w w'):sliceAt w' v l:=by
 rcases h with h|⟨g,o,a,h1,h2,h3,h4⟩
 ·exact Or.inl h
 ·exact Or.inr ⟨g,o,a,h1,h2,ap h3 hb.size,h4.kept hb h3⟩
theorem oJ{w:World}{v:Value}{l:List UInt8}(h:sliceAt w v l):∃ a c,v=.slice a l.length c:=by
 rcases h with⟨a,c,h1,rfl⟩|⟨g,o,c,h1,_⟩
 ·exact⟨a,c,h1⟩
 ·exact⟨_,c,h1⟩
theorem zcK{w:World}{B:Nat}{v:Value}{l:List UInt8}(h:w.ownsRow B 5 1 v l.length (dW l)):sliceAt w v l:=by
 rcases h.2 with⟨rfl,i⟩|⟨g,b,a,rfl,hb,d,k,o,p,m⟩
 ·exact Or.inl ⟨none,0,U,bv.1 i⟩
 ·refine Or.inr ⟨g,0,b,U,k,(ay.1 d).1,λj c f=>?_⟩
  have n:=(aA.1 f).1;rw[aN,Lib.cell_of_heap d j];have e:a[j]?=(a.toList.take (l.length*1))[j]?:=by rw[dI,Q (by omega)];simp
  rw[e,m,dW,aX,f];rfl
theorem zeR{w w':World}{B:Nat}{v:Value}{n:Nat}{xs:List Value}(h:w.ownsRow B 5 1 v n xs)(e:∀ k,v.ownBlock=some k->w'.heap[k]?=w.heap[k]?):w'.ownsRow B 5 1 v n xs:=by
 refine⟨h.1,?_⟩;rcases h.2 with h2|⟨g,a,b,rfl,hb,c,r⟩
 ·exact Or.inl h2
 ·exact Or.inr ⟨g,a,b,U,hb,(e g U).trans c,r⟩
theorem zqg(l:List UInt8)(i:Nat)(hi:i<l.length):∃ c,l[i]?=some c/\(l.map (λc=>(c.toNat:Int))).getD i 0=(c.toNat:Int):=by
 refine⟨l[i],au hi,?_⟩;simp[List.getD,au hi]
theorem addr_add(g o j:Nat):(⟨g,o,none⟩:Addr).add j=⟨g,o+j,none⟩:=by unfold Addr.add;split <;> simp_all
theorem zvH(l:List UInt8):strOfNums (l.map (λc=>(c.toNat:Int)))=mk l:=by
 unfold strOfNums mk;rw[jn];congr 2;have:((λn:Int=>UInt8.ofNat n.toNat) ∘ λc:UInt8=>(c.toNat:Int))=id:=by funext c;simp
 rw[this,List.map_id]
theorem zh5{w:World}{v:Value}{l:List UInt8}(h:sliceAt w v l):(convert 26 9 v).run prog w=.ok (.string (mk l)) w:=by
 rcases h with⟨a,b,rfl,rfl⟩|⟨g,o,b,rfl,h2,h3,h4⟩
 ·cases a with
  | none=>exact run_convert_bytes_nil w 26 5 underlying26 underlying5 0 b 9 underlying9
  | some a =>
   have d:(loadCells a 0).run prog w=.ok (([]:List Int).map (Value.int .u8)).toArray w:=run_loadCells_list (P:=prog) w a [] (λj v e=>by simp at e);rw[lQ w 26 9 5 _ 0 b underlying26 underlying5 underlying9,run_bytesToString w a 0 b [] d];rfl
 ·have:=run_convert_bytes_arg (P:=prog) w 26 5 underlying26 underlying5 g o l.length b (l.map (λc=>(c.toNat:Int))) (by simp) (λi hi=>by
   obtain⟨c,hc,f⟩:=zqg l i hi;rw[f];exact h4 i c hc) 9 underlying9
  rw[zvH] at this;exact this
theorem info_parts{i:Option TypeInfo}{z:Value}{s y:Nat}(h:i.map (λi=>(i.zero,i.size,i.bytes))=some (some z,s,y)):∃ i0,i=some i0/\i0.zero=some z/\i0.size=s/\i0.bytes=y:=by
 cases i with
 | none=>cases h
 | some i0 =>
  simp only[eJ,aP,dD] at h;exact⟨i0,U,h.1,h.2.1,h.2.2⟩
theorem zjB(a v2:Value)(l1 l2:List UInt8)(w:World)(h1:sliceAt w a l1)(h2:sliceAt w v2 l2):Calls prog 38 #[a,v2] w λe w'=>e=.returned (.bool (l1 == l2))/\w=w':=by
 have c1:=zh5 h1;have c2:=zh5 h2;go_enter func38,ntmps38;go_wp2;go_ret;exact⟨by simp[ri],U⟩
theorem zdV:(Tryz.prog.info? 5).map (λi=>(i.zero,i.size,i.bytes))=some (some (.int .u8 0),1,1):=by kernel_rfl
theorem zg5(a b:List UInt8):dW a++dW b=dW (a++b):=by simp[dW]
theorem pm(B:Nat)(i:TypeInfo)(hi:Tryz.prog.info? 5=some i)(ty:TypeId)(v:Value)(n:Nat)(xs:List Value){w:World}(b:w.ownsRow B 5 1 v n xs)(a:Option Addr)(c:Nat):(Builtin.append_ #[26,26] ty #[v,.slice a 0 c]).run prog w=.ok v w:=by
 have e:=bT (P:=prog) underlying26;have f:(Builtin.firstCells i.size 0 (.slice a 0 c)).run prog w=.ok #[] w:=by
  cases a with
  | none=>exact ic w i.size 0 0 c
  | some a=>exact ie w i.size 0 a 0 c [] (by simp) (λj v h=>by simp at h)
 rcases b.2 with⟨rfl,rfl⟩|⟨g,k,l,rfl,_,_,d,_⟩
 ·simp[Builtin.append_,e,sizeOf,typeInfo,hi,Builtin.lenOf,f]
 ·simp[Builtin.append_,e,sizeOf,typeInfo,hi,Builtin.lenOf,f,d,storeCells]
theorem zfs{ops:Array Oper}{rest:List Oper}{o:Oper}{a:Act}{w:World}{aj:Exit->Act->World->Prop}(m:o.guard=none)(s x:Operand)(I:o.op=.call { callee:=.builtin .append,args:=#[s,x],argTypes:=#[26,26] })
 (B:Nat) (v:Value) (xs:List UInt8) (L:a.eval s=v) (b:w.ownsRow B 5 1 v xs.length (dW xs)) (r:Value) (M:a.eval x=r) (l:List UInt8) (N:sliceAt w r l) (hb:xs.length+l.length<=100000) (hB:B<=w.heap.size)
 (h:∀ v' w',w'.ownsRow B 5 1 v' (xs++l).length (dW (xs++l))->Below B w w'->wpList prog ops aj rest (a.put o.dst v') w'):wpList prog ops aj (o::rest) a w:=by
 obtain⟨i0,n,t,y,z⟩:=info_parts zdV;by_cases d:l=[]
 ·subst d
  have E:∃ i c,r=.slice i 0 c:=by
   rcases N with⟨i,c,h1,_⟩|⟨g,o',c,h1,_⟩
   ·exact⟨i,c,h1⟩
   ·exact⟨_,c,h1⟩
  obtain⟨i,c,rfl⟩:=E;refine dS m λK T=>?_
  have p:=pm B i0 n o.type v xs.length (dW xs) b i c;unfold Oper.wp;simp[execOp,I,resolve,invoke,builtin,L,M,p,Result.andThen];exact T _ _ (h v w (by simpa using b) (aW _ _))
 ·rcases N with⟨i,c,_,h2⟩|⟨g,o',c,h1,h2,h3,h4⟩
  ·exact absurd h2 d
  ·have q:0<l.length:=by cases l with|nil=>exact absurd rfl d|cons _ _=>simp
   refine wpList_append_lies _ m s x _ I B 5 i0 _ 1 1 underlying26 n t y z U (by omega) v xs.length (dW xs) L b ⟨g,o',none⟩ l.length c (dW l) (M.trans h1) (by simp[dW]) (λj u P=>?_) (λu R=>?_) q (by unfold maxLen;omega) (by omega) hB w.heap.size U ?_
   ·simp only[dW,aX,eF] at P
    obtain⟨cc,F,H⟩:=P;rw[<- H,show (⟨g,o',none⟩:Addr).add j=⟨g,o'+j,none⟩ by unfold Addr.add;split <;> simp_all];exact h4 j cc F
   ·simp only[dW,ex] at R
    obtain⟨cc,_,rfl⟩:=R;rfl
   ·intro g' V w' e f _ _
    refine h _ w' ?_ ((aW B w).grown f hB (λk W=>(b.lt k W).1));rw[aC,<- zg5];exact e
theorem lW{P:Program}{ops:Array Oper}{op:Oper}{a:Act}{w:World}{K:Act->World->Prop}{aj:Exit->Act->World->Prop}{E:Prop}(c:op.guard=none)(ty:TypeId)(x y:Operand)(d:op.op=.store ty x y)
 (b o:Nat) (cells:Array Value) (e:a.eval x=.pointer (some ⟨b,o,none⟩)) (f:a.eval y=.agg cells) (g:w.there b o cells.size) (hi:(P.info? ty).map (·.size)=some cells.size) (h1:cells.all (·.oneCell')=true)
 (h:K (a.put op.dst undef) (w.setCells b o cells.toList)):if Region.wanted op (yielded ops a.tmps)=true then Oper.wp P op a w K aj else E:=by
 rw[Q (by simp[Region.wanted,c])];exact wp_store_mid ty x y d b o cells e f g hi h1 h
theorem zd4{P:Program}{ops:Array Oper}{op:Oper}{a:Act}{w:World}{K:Act->World->Prop}{aj:Exit->Act->World->Prop}{E:Prop}(c:op.guard=none)(ty:TypeId)(x:Operand)(e:op.op=.load ty x)
 (b o:Nat) (f:a.eval x=.pointer (some ⟨b,o,none⟩)) (cs:List Value) (u:TypeDesc) (hc:w.rangeAt b o cs) (g:P.underlying ty=some u) (d:u.isRow=true) (hi:(P.info? ty).map (·.size)=some cs.length)
 (h:K (a.put op.dst (.agg cs.toArray)) w):if Region.wanted op (yielded ops a.tmps)=true then Oper.wp P op a w K aj else E:=by
 rw[Q (by simp[Region.wanted,c])];exact wp_load_mid ty x e b o f cs u hc g d hi h
end Go.Proofs.YthghjlinhokimaaGreatDoor
