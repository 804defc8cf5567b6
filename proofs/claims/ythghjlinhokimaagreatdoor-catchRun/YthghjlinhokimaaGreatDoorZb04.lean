/-
  Parts of a proof, joined.
-/
import Derived.Test.YthghjlinhokimaaGreatDoorZbA
import Derived.Test.YthghjlinhokimaaGreatDoorZb01
import Derived.Test.YthghjlinhokimaaGreatDoorZb00
import Derived.Test.YthghjlinhokimaaGreatDoorZb02
import Derived.Lib.SmallJoins
import Derived.WalkSpells
import Derived.Laws.EntriesVeiled
import Derived.Test.YthghjlinhokimaaGreatDoorZb03
import Derived.Laws.AppendOwnNone
import Derived.Deep.AppendLies
set_option linter.all false
set_option maxRecDepth 100000
set_option maxHeartbeats 1600000
open Option renaming none->G,some->A
open Go renaming World->u,Value->π,Calls->Δ,TypeId->aJ,bits->bW,Program->bX,Oper->cG,Addr->cK,wpList->dg,Operand->dk,Act->dH,Exit->ii,IntKind->mx
open Bool renaming false->ξ,true->Γ
open Go.Proofs.Tryz renaming prog->ω
open Or renaming inl->aj,inr->ao
open Go.Instr renaming index->aK
open Go.RowKit renaming intOf->aU
open Go.Region renaming wanted->b9
open Go.IntKind renaming signed->cP,wrap->dB,bits->dC,i64->Q,u16->Y,u8->au
open Go.Value renaming int->J,slice->κ,bool->ν,tuple->Ψ,string->Ω,agg->ac,pointer->aB
open Go.Ending renaming returned->μ
open Go.Builtin renaming append_->fe,lenOf->jo
open Go.DataW renaming TrodAll->gu
open Go.World renaming setCell->jn
open Go.Obj renaming cells->χ
namespace Go.Proofs.YthghjlinhokimaaGreatDoor.O
def hasC(k:Nat)(c:UInt8):Bool:=(K.row k).2.1.contains c
def isOp(op:Int):Bool:=decide (0<=op) && decide (op<=31) && (op != 30)
def first(op d s n:Int):Int:=op*2048+d*256+s*32+(n+32)%32
def rOp(a:Int):Int:=if a/2048=30 then 31 else a/2048
def rk(a:Int):Nat:=(rOp a).toNat
def rD(a:Int):Int:=if hasC (rk a) 100 then a/256%8 else 0
def rS(a:Int):Int:=if hasC (rk a) 115 then a/32%8 else 0
def nOf(k:Nat)(a:Int):Int:=if k=12 \/ k=13 then a%16 else if 16<=a%32 then a%32-32 else a%32
def rN(a:Int):Int:=if hasC (rk a) 110 then nOf (rk a) a else 0
def rW(a b:Int):Int:=if hasC (rk a) 119 then b else 0
def rLen(a:Int):Int:=if hasC (rk a) 119 then 2 else 1
def mask(k:Nat):Int:=(if hasC k 100 then 1 else 0)+(if hasC k 115 then 2 else 0)+(if hasC k 110 then (if k=12 \/ k=13 then 16 else 4) else 0)+(if hasC k 119 then 8 else 0)
theorem mask_cases:∀ k,k<32->mask k∈([0,1,2,3,5,7,8,9,17]:List Int):=by decide +kernel
def nameS(k:Nat):ByteArray:=if k=30 then ⟨#[]⟩ else K.name k
theorem nameS_empty:∀ k,k<32->(nameS k).toList.isEmpty=(k == 30):=by decide +kernel
theorem mask_or(k:Nat)(a:k<32):mask k=0 \/ mask k=1 \/ mask k=2 \/ mask k=3 \/ mask k=5 \/ mask k=7 \/ mask k=8 \/ mask k=9 \/ mask k=17:=by simpa using mask_cases k a
theorem isOp_iff(op:Int):isOp op=Γ ↔ 0<=op/\op<=31/\op≠30:=by
 unfold isOp;simp only[io,cu,mB,ne_eq,and_assoc]
/-! ### the first word, laid in bit by bit -/
theorem low_5(a:Int):M.low a 5=if 16<=a%32 then a%32-32 else a%32:=by
 unfold M.low;simp only[show (5:Int).toNat=5 from D,Int.reducePow];split <;> split <;> omega
/-! ### what was written is read -/
end Go.Proofs.YthghjlinhokimaaGreatDoor.O
namespace Go.Proofs.YthghjlinhokimaaGreatDoor
open Go.ChangeShapes Go.WideShapes Go.ChangeAt Go.RowKit Go.Proofs.Tryz
def br(w:u):Prop:=∀ k,k<32->w.cell? ⟨2,k*3,G⟩=A (Ω (O.nameS k))/\w.cell? ⟨2,k*3+1,G⟩=A (J Q (K.cyc k))/\w.cell? ⟨2,k*3+2,G⟩=A (J Q (O.mask k))
theorem br.lt{w:u}(h:br w):2<w.heap.size:=aC w _ (h 0 (by omega)).1
theorem br.kept{w w':u}(h:br w)(hb:Below w.heap.size w w'):br w':=λk b=>by
 have a:=h.lt;obtain⟨h1,h2,h3⟩:=h k b;exact⟨(hb.cell a).trans h1,(hb.cell a).trans h2,(hb.cell a).trans h3⟩
structure Facts (w : u) : Prop where
 tab:Lib.TabIs ω w "strings.asciiSpace" au Lib.asciiSpaceTab
 len:∃ m,w.cell? ⟨0,0,G⟩=A (J Q m)
 shapes:br w
theorem zm5:Tryz.prog.globalNamed "strings.asciiSpace" = A 1:=by kernel_rfl
theorem Facts.kept{w w':u}(h:Facts w)(hb:Below w.heap.size w w'):Facts w':=by
 obtain⟨t,⟨m,a⟩,s⟩:=h;exact⟨Joins.tab_stays zm5 t hb (ψ _),⟨m,(hb.cell (aC w _ a)).trans a⟩,s.kept hb⟩
/-! ### arguments: each reads behind the call as it did -/
theorem zei{H:Type}{enc:aJ × π->H}{P:bX}(k:laidOutB P=Γ){W l:u}(hb:Below W.heap.size W l):∀ {e:List aJ} {vs:List π} {f:List (DataW H)} {ps:List MemPlace},(∀ t∈e,P.readableRec t=Γ/\t<P.types.size)->gu enc P W 0 (λ_=>Γ) Γ e vs f ps->(∀ x∈ps,x.block<W.heap.size) ->
  gu enc P l 0 (λb=>decide (b<W.heap.size)) Γ e vs f ps
 | [],vs,f,ps,_,h,_=>by
  obtain⟨rfl,rfl,rfl⟩:=kx h;exact trodAll_mk0
 | t::e,vs,f,ps,g,h,c=>by
  obtain⟨v,vs',d,m,p,q,rfl,rfl,rfl,n,a⟩:=cR h;exact⟨p,q,Below.trod k (g t (by simp)).1 (g t (by simp)).2 n hb (λx i=>c x (by simp[i])),zei k hb (λt' j=>g t' (by simp[j])) a (λx i=>c x (by simp[i])),D⟩
theorem Af{H:Type}{enc:aJ × π->H}{P:bX}(f:laidOutB P=Γ){W d:u}(hb:Below W.heap.size W d){a:List aJ}{vs:List π}{e:List (DataW H)}{ps:List MemPlace}
 (g:a.all (λt=>P.readableRec t && decide (t<P.types.size))=Γ) (h:gu enc P W 0 (λ_=>Γ) Γ a vs e ps) (c:∀ x∈ps,x.block<W.heap.size) :
 gu enc P d 0 (λb=>decide (b<W.heap.size)) Γ a vs e ps :=
 zei f hb (λt i=>by have:=cx.1 g t i;simpa using this) h c
theorem below_draws{B:Nat}{a w:u}(h:Below B a w)(n:Nat):Below B a (w.drewN n):=⟨h.os,h.tape,h.output,h.size,h.block⟩
theorem hid{p:Prop}(h:p):Hid p:=h
theorem sJ{b b':Bool}(h:b=b'):μ (ν b)=μ (ν b'):=by rw[h]
theorem bw{W a b:u}(h:Below W.heap.size W a)(hb:Below a.heap.size a b):Below W.heap.size W b:=h.trans (hb.mono h.size)
theorem stA{W a:u}(h:Below W.heap.size W a)(o:Obj):Below W.heap.size W (a.alloc o):=h.alloc h.size o
theorem aR(W:u):Below W.heap.size W W:=bq _ _
theorem cj{W w1:u}(hb:Below W.heap.size W w1):(∀ b o,b<W.heap.size->w1.cell? ⟨b,o,G⟩=W.cell? ⟨b,o,G⟩)/\(∀ b o,b<W.heap.size->w1.frozen? ⟨b,o,G⟩=W.frozen? ⟨b,o,G⟩) :=
 ⟨λb o h=>hb.cell (p:=⟨b,o,G⟩) h,λb o h=>hb.frozen (p:=⟨b,o,G⟩) h⟩
theorem tH(k:Nat)(c:k<32)(a:k≠30)(w:u)(b:br w):Δ ω 256 #[J Q k] w λe w'=>e=μ (Ψ #[ac #[Ω (O.nameS k),J Q (K.cyc k),J Q (O.mask k)],J Q 0])/\Below w.heap.size w w':=by
 have d:=b.lt;obtain⟨c0,c1,c2⟩:=b k c;have f:(O.nameS k).toList.isEmpty=ξ:=(O.nameS_empty k c).trans (by simpa using a);clear b;go_enter func256,ntmps256;go_wp2;exact Ξ (v:=Ψ #[ac #[Ω (O.nameS k),J Q (K.cyc k),J Q (O.mask k)],J Q 0]) (by simp[results,results256,go_sem]) D ⟨D,(bq _ _).alloc (ψ _) _⟩
theorem zi7(op:Int)(h:O.isOp op=ξ)(w:u)(b:br w):Δ ω 256 #[J Q op] w λe w'=>e=μ (Ψ #[ac #[Ω ⟨#[]⟩,J Q 0,J Q 0],J Q 5])/\Below w.heap.size w w':=by
 have f:=b.lt;have d:¬ (0<=op/\op<=31/\op≠30):=λc=>by rw[(O.isOp_iff op).2 c] at h;cases h
 obtain⟨c0,c1,c2⟩:=b 30 (by omega);clear b h;have a:O.nameS 30=⟨#[]⟩:=D;rw[a] at c0;clear a;have hc:op<0 \/ 31<op \/ op=30:=by omega
 clear d;rcases hc with h|h|rfl
 ·go_enter func256,ntmps256
  go_wp2;exact Ξ (v:=Ψ #[ac #[Ω ⟨#[]⟩,J Q 0,J Q 0],J Q 5]) (by simp[results,results256,go_sem]) D ⟨D,(bq _ _).alloc (ψ _) _⟩
 ·have h2:¬ op<0:=by omega
  go_enter func256,ntmps256;go_wp2;exact Ξ (v:=Ψ #[ac #[Ω ⟨#[]⟩,J Q 0,J Q 0],J Q 5]) (by simp[results,results256,go_sem]) D ⟨D,(bq _ _).alloc (ψ _) _⟩
 ·go_enter func256,ntmps256
  go_wp2;exact Ξ (v:=Ψ #[ac #[Ω ⟨#[]⟩,J Q 0,J Q 0],J Q 5]) (by simp[results,results256,go_sem]) D ⟨D,(bq _ _).alloc (ψ _) _⟩
def lenOf(h:Int):Int:=if h/8%2=1 then 2 else 1
theorem sT(a b:π)(k:Nat)(c:k<32)(w:u):Δ ω 288 #[ac #[a,b,J Q (O.mask k)]] w λe w'=>e=μ (J Q (lenOf (O.mask k)))/\Below w.heap.size w w':=by
 rcases O.mask_or k c with h|h|h|h|h|h|h|h|h <;> rw[h]
 all_goals
  clear h;go_enter func288,ntmps288;go_wp2;go_ret;exact⟨D,(bq _ _).alloc (ψ _) _⟩
theorem ly(w:u)(cs:Array π)(t:aJ)(b:Nat)(h:b=w.heap.size){k:Nat}:(w.alloc (χ cs t)).cell? ⟨b,k,G⟩=cs[k]?:=by subst h;exact j3 ..
theorem pJ{w:u}(h:br w)(o:Obj):br (w.alloc o):=h.kept ((bq _ _).alloc (ψ _) _)
theorem zil(k:Nat)(d:k<32)(b:k≠30)(w:u)(f:br w):Δ ω 254 #[J Q k] w λe w'=>e=μ (Ψ #[J Q (K.cyc k),J Q (lenOf (O.mask k)),J Q 0])/\Below w.heap.size w w':=by
 have g:=hid f;clear f;go_enter func254,ntmps254;go_wp2_with (go_at_call 256;refine(tH k d b _ g.out).mono ?_;rintro e w1 ⟨rfl,c⟩)
 go_region_held3 (λw'=>w'.cell? ⟨w1.heap.size,0,G⟩=A (Ω (O.nameS k))/\w'.cell? ⟨w1.heap.size,1,G⟩=A (J Q (K.cyc k))/\w'.cell? ⟨w1.heap.size,2,G⟩=A (J Q (O.mask k)))
  (first
    | go_keep
    | (go_split_ands
       refine⟨?_,?_,?_⟩
       ·(rw[a.cell (by simp)];assumption)
       ·(rw[a.cell (by simp)];assumption)
       ·(rw[a.cell (by simp)];assumption)))
  ((go_at_call 288;refine(sT _ _ k d _).mono ?_;rintro e w2 ⟨rfl,a⟩))
 go_wp2
 go_ret3
 exact⟨D,bw (stA c _).drew a⟩
theorem zz9{k l:mx}{a c b b':Int}(h:a=c)(h1:b=b'):μ (Ψ #[.int k a,.int l b])=μ (Ψ #[.int k c,.int l b']):=by rw[h,h1]
theorem zdt(a n:Int)(w:u)(f:0<=a)(c:a<=65535)(d:1<=n)(b:n<=16):Δ ω 337 #[J Y a,J Q n] w λe w'=>e=μ (Ψ #[J Q (M.low a n),J Q 0])/\w'=w:=by
 go_enter func337,ntmps337;go_wp2
 go_ret2
 exact⟨zz9 (M.low_of a n d b) D,D⟩
theorem vJ(x:Int)(h:0<=x)(a:x<=65535):bW .and Y x 7=x%8/\bW .and Y x 15=x%16 :=
 ⟨by have:=M.and_low x 3 (by omega) h a;simpa using this,by have:=M.and_low x 4 (by omega) h a;simpa using this⟩
theorem nV{w1 w2:u}{n c h a0 a1 a2 a3 a4:π}{t t':aJ}(hb:Below ((w1.alloc (χ #[n,c,h] t)).alloc (χ #[a0,a1,a2,a3,a4] t')).drew.heap.size ((w1.alloc (χ #[n,c,h] t)).alloc (χ #[a0,a1,a2,a3,a4] t')).drew w2):w2.cell? ⟨w1.heap.size,0,G⟩=A n/\w2.cell? ⟨w1.heap.size,1,G⟩=A c/\w2.cell? ⟨w1.heap.size,2,G⟩=A h/\w2.cell? ⟨w1.heap.size+1,0,G⟩=A a0/\w2.cell? ⟨w1.heap.size+1,1,G⟩=A a1 /\
  w2.cell? ⟨w1.heap.size+1,2,G⟩=A a2/\w2.cell? ⟨w1.heap.size+1,3,G⟩=A a3/\w2.cell? ⟨w1.heap.size+1,4,G⟩=A a4:=by
 have e:∀ i,((w1.alloc (χ #[n,c,h] t)).alloc (χ #[a0,a1,a2,a3,a4] t')).drew.cell? ⟨w1.heap.size,i,G⟩=#[n,c,h][i]?:=λi =>
  (aN (w1.alloc (χ #[n,c,h] t)) _ _ (by simp)).trans (ly _ _ _ _ D)
 have a:∀ i,((w1.alloc (χ #[n,c,h] t)).alloc (χ #[a0,a1,a2,a3,a4] t')).drew.cell? ⟨w1.heap.size+1,i,G⟩=#[a0,a1,a2,a3,a4][i]?:=λi=>ly (w1.alloc (χ #[n,c,h] t)) _ _ _ (by simp)
 refine⟨?_,?_,?_,?_,?_,?_,?_,?_⟩
 ·rw[hb.cell (by simp;omega),e];rfl
 ·rw[hb.cell (by simp;omega),e];rfl
 ·rw[hb.cell (by simp;omega),e];rfl
 ·rw[hb.cell (by simp),a];rfl
 ·rw[hb.cell (by simp),a];rfl
 ·rw[hb.cell (by simp),a];rfl
 ·rw[hb.cell (by simp),a];rfl
 ·rw[hb.cell (by simp),a];rfl
theorem rE(w2:u)(b:Nat)(v0 a v2 v3 v4:π)(p:cK)(h:b≠p.block):(((((w2.setCell ⟨b,0,G⟩ v0).setCell ⟨b,1,G⟩ a).setCell ⟨b,2,G⟩ v2).setCell ⟨b,3,G⟩ v3).setCell ⟨b,4,G⟩ v4).cell? p=w2.cell? p:=by
 rw[World.cell?_setCell_far _ _ _ _ h,World.cell?_setCell_far _ _ _ _ h,World.cell?_setCell_far _ _ _ _ h,World.cell?_setCell_far _ _ _ _ h,World.cell?_setCell_far _ _ _ _ h]
theorem lV{w w1 w2:u}{n c h a0 a1 a2 a3 a4 v0 a v2 v3 v4:π}(i:w.heap.size<w1.heap.size)
 (b:w2.cell? ⟨w1.heap.size,0,G⟩=A n/\w2.cell? ⟨w1.heap.size,1,G⟩=A c/\w2.cell? ⟨w1.heap.size,2,G⟩=A h/\w2.cell? ⟨w1.heap.size+1,0,G⟩=A a0/\w2.cell? ⟨w1.heap.size+1,1,G⟩=A a1 /\
   w2.cell? ⟨w1.heap.size+1,2,G⟩=A a2/\w2.cell? ⟨w1.heap.size+1,3,G⟩=A a3/\w2.cell? ⟨w1.heap.size+1,4,G⟩=A a4) :
 (((((w2.setCell ⟨w.heap.size,0,G⟩ v0).setCell ⟨w.heap.size,1,G⟩ a).setCell ⟨w.heap.size,2,G⟩ v2).setCell ⟨w.heap.size,3,G⟩ v3).setCell ⟨w.heap.size,4,G⟩ v4).cell? ⟨w1.heap.size,0,G⟩=A n/\(((((w2.setCell ⟨w.heap.size,0,G⟩ v0).setCell ⟨w.heap.size,1,G⟩ a).setCell ⟨w.heap.size,2,G⟩ v2).setCell ⟨w.heap.size,3,G⟩ v3).setCell ⟨w.heap.size,4,G⟩ v4).cell? ⟨w1.heap.size,1,G⟩=A c/\(((((w2.setCell ⟨w.heap.size,0,G⟩ v0).setCell ⟨w.heap.size,1,G⟩ a).setCell ⟨w.heap.size,2,G⟩ v2).setCell ⟨w.heap.size,3,G⟩ v3).setCell ⟨w.heap.size,4,G⟩ v4).cell? ⟨w1.heap.size,2,G⟩=A h/\(((((w2.setCell ⟨w.heap.size,0,G⟩ v0).setCell ⟨w.heap.size,1,G⟩ a).setCell ⟨w.heap.size,2,G⟩ v2).setCell ⟨w.heap.size,3,G⟩ v3).setCell ⟨w.heap.size,4,G⟩ v4).cell? ⟨w1.heap.size+1,0,G⟩=A a0/\(((((w2.setCell ⟨w.heap.size,0,G⟩ v0).setCell ⟨w.heap.size,1,G⟩ a).setCell ⟨w.heap.size,2,G⟩ v2).setCell ⟨w.heap.size,3,G⟩ v3).setCell ⟨w.heap.size,4,G⟩ v4).cell? ⟨w1.heap.size+1,1,G⟩=A a1 /\
  (((((w2.setCell ⟨w.heap.size,0,G⟩ v0).setCell ⟨w.heap.size,1,G⟩ a).setCell ⟨w.heap.size,2,G⟩ v2).setCell ⟨w.heap.size,3,G⟩ v3).setCell ⟨w.heap.size,4,G⟩ v4).cell? ⟨w1.heap.size+1,2,G⟩=A a2/\(((((w2.setCell ⟨w.heap.size,0,G⟩ v0).setCell ⟨w.heap.size,1,G⟩ a).setCell ⟨w.heap.size,2,G⟩ v2).setCell ⟨w.heap.size,3,G⟩ v3).setCell ⟨w.heap.size,4,G⟩ v4).cell? ⟨w1.heap.size+1,3,G⟩=A a3/\(((((w2.setCell ⟨w.heap.size,0,G⟩ v0).setCell ⟨w.heap.size,1,G⟩ a).setCell ⟨w.heap.size,2,G⟩ v2).setCell ⟨w.heap.size,3,G⟩ v3).setCell ⟨w.heap.size,4,G⟩ v4).cell? ⟨w1.heap.size+1,4,G⟩=A a4:=by
 obtain⟨h1,h2,h3,h4,d,e,f,g⟩:=b;refine⟨?_,?_,?_,?_,?_,?_,?_,?_⟩
 ·exact(rE _ _ _ _ _ _ _ _ (by simp;omega)).trans h1
 ·exact(rE _ _ _ _ _ _ _ _ (by simp;omega)).trans h2
 ·exact(rE _ _ _ _ _ _ _ _ (by simp;omega)).trans h3
 ·exact(rE _ _ _ _ _ _ _ _ (by simp;omega)).trans h4
 ·exact(rE _ _ _ _ _ _ _ _ (by simp;omega)).trans d
 ·exact(rE _ _ _ _ _ _ _ _ (by simp;omega)).trans e
 ·exact(rE _ _ _ _ _ _ _ _ (by simp;omega)).trans f
 ·exact(rE _ _ _ _ _ _ _ _ (by simp;omega)).trans g
theorem lW{w w1 w2:u}{o o':Obj}{t:aJ}(a:Below (w.alloc (χ #[J Q 0,J Q 0,J Q 0,J Q 0,J Q 0] t)).heap.size (w.alloc (χ #[J Q 0,J Q 0,J Q 0,J Q 0,J Q 0] t)) w1)
 (c:Below ((w1.alloc o).alloc o').drew.heap.size ((w1.alloc o).alloc o').drew w2) :
 (∀ i,i<5->w2.cell? ⟨w.heap.size,i,G⟩=A (J Q 0)) /\ ∀ i,w2.frozen? ⟨w.heap.size,i,G⟩=ξ:=by
 have d:w.heap.size<w1.heap.size:=by have:=a.size;simp at this;omega
 have b:Below w1.heap.size w1 w2:=((stA (stA (aR w1) o) o').drew).trans (c.mono (by simp;omega));refine⟨λi hi=>?_,λi=>?_⟩
 ·rw[b.cell d,a.cell (by simp),ly _ _ _ _ D]
  have hc:i=0 \/ i=1 \/ i=2 \/ i=3 \/ i=4:=by omega
  rcases hc with rfl|rfl|rfl|rfl|rfl <;> rfl
 ·rw[b.frozen d,a.frozen (by simp)]
  simp
def ir(l:Bool)(a b:Int):Int:=if l then a else b
theorem znN{P:Int->Prop}(l:Bool){a b:Int}(c:P a)(hb:P b):P (ir l a b):=by cases l <;> assumption
theorem Pl.new(w:u)(cs:Array π)(t:aJ)(b:Nat)(h:b=w.heap.size){k:Nat}:(w.alloc (χ cs t)).cell? ⟨b,k,G⟩=cs[k]?:=by subst h;exact j3 ..
theorem wT(w:u)(cs:Array π)(t:aJ)(n b:Nat)(hb:b=w.heap.size)(h:cs.size=n):(w.alloc (χ cs t)).there b 0 n:=λj a=>by
 subst hb;refine⟨?_,Lib.frozen_of_heap (aM w _) _⟩;rw[Pl.new _ _ _ _ D,jc (by omega)];rfl
theorem zc9{w w':u}{b n:Nat}(h:w.there b 0 n)(hb:Below w.heap.size w w')(a:b<w.heap.size):w'.there b 0 n:=λj c=>by
 have:=h j c;rw[hb.cell (p:=⟨b,0+j,G⟩) a,hb.frozen (p:=⟨b,0+j,G⟩) a];exact this
theorem Pl.below{n:Nat}{a:u}{b:Nat}(hb:n<=b):∀(vs:List π) (o:Nat) (w:u),Below n a w->Below n a (w.setCells b o vs)
 | [],o,w,h=>h
 | v::vs,o,w,h=>Pl.below hb vs (o+1) _ (h.setCell hb v)
theorem Pl.fin{w w0 w1:u}{b:Nat}(L:List π)(c:w0.there b 0 L.length)(d:Below w.heap.size w w0)(a:Below w0.heap.size w0 w1)(e:b<w0.heap.size)(f:w.heap.size<=b):Below w.heap.size w (w1.setCells b 0 L)/\(w1.setCells b 0 L).rangeAt b 0 L :=
 ⟨Pl.below f L 0 w1 (bw d a),World.rangeAt_setCells_same w1 b 0 L (zc9 c a e)⟩
theorem Pl.cutW{P:bX}{b:Code}{η:ii->dH->u->Prop}{a:dH}{w:u}(K:u->Prop)(h:K w)(k:∀ w',K w'->b.wp P η a w'):b.wp P η a w:=k w h
theorem Pl.cutB{P:bX}{b:Func}{R:Ending->u->Prop}{e:ii}{a:dH}{w:u}(K:u->Prop)(h:K w)(k:∀ w',K w'->bodyPost P b R e a w'):bodyPost P b R e a w:=k w h
theorem Pl.spot{w:u}{a:cK}{v:π}(h:w.cell? a=A v):a.spot=G:=by
 unfold World.cell? at h;split at h
 ·split at h
  ·cases h
  ·rename_i b
   cases c:a.spot with
   | none=>rfl
   | some x=>rw[c] at b;simp at b
 ·cases h
theorem qE{a b:π}(h:a=b):μ a=μ b:=by rw[h]
theorem xA{α:Type}{l:List α}{i:Nat}{a:α}:l.toArray.setIfInBounds i a=(l.set i a).toArray:=dp _ _ _
theorem xB{α:Type}{a b:α}{l:List α}:(a::l).set 0 b=b::l:=fA
theorem xC{α:Type}{a b:α}{l:List α}{n:Nat}:(a::l).set (n+1) b=a::l.set n b:=fB
structure Mv (B : Nat) (T T' : Nat -> Prop) (w w' : u) : Prop where
 below:Below B w w'
 block:∀ k,k<w.heap.size->¬ T k->w'.heap[k]?=w.heap[k]?
 fresh:∀ k,T' k->T k \/ w.heap.size<=k
section
variable {B : Nat} {T T' T'' : Nat -> Prop} {a b c w w' : u}
theorem Mv.size(h:Mv B T T' w w'):w.heap.size<=w'.heap.size:=h.below.size
theorem Mv.refl(B:Nat)(T:Nat->Prop)(w:u):Mv B T T w w:=⟨bq _ _,λ_ _ _=>rfl,λ_ h=>aj h⟩
theorem Mv.trans(h:Mv B T T' a b)(k:Mv B T' T'' b c):Mv B T T'' a c :=
 ⟨h.below.trans k.below,λi hi e=>(k.block i (Θ hi h.size) (λd=>by rcases h.fresh i d with x|x;exact e x;omega)).trans (h.block i hi e),
   λi hi=>by
    rcases k.fresh i hi with x|x
    ·exact h.fresh i x
    ·exact ao (ax h.size x)⟩
theorem Mv.of_below(hB:B<=w.heap.size)(h:Below w.heap.size w w'):Mv B T T w w':=⟨h.mono hB,λk a _=>h.block k a,λ_ h=>aj h⟩
theorem Mv.alloc(h:Mv B T T' w w')(hB:B<=w.heap.size)(o:Obj):Mv B T T' w (w'.alloc o) :=
 ⟨h.below.alloc (ax hB h.size) o,λk a b=>(kh _ _ _ (Θ a h.size)).trans (h.block k a b),h.fresh⟩
theorem Mv.drew(h:Mv B T T' w w'):Mv B T T' w w'.drew:=⟨h.below.drew,h.block,h.fresh⟩
theorem Mv.drewN(h:Mv B T T' w w')(n:Nat):Mv B T T' w (w'.drewN n):=⟨⟨h.below.os,h.below.tape,h.below.output,h.below.size,h.below.block⟩,h.block,h.fresh⟩
theorem Mv.setCell(h:Mv B T T' w w'){p:cK}(hB:B<=p.block)(hp:T p.block \/ w.heap.size<=p.block)(θ:π):Mv B T T' w (w'.setCell p θ) :=
 ⟨h.below.setCell hB θ,λk b a=>(cF _ _ _ _ (λe=>by subst e;rcases hp with x|x;exact a x;omega)).trans (h.block k b a),h.fresh⟩
theorem Mv.cell(h:Mv B T T' w w'){k:Nat}(a:k<w.heap.size)(b:¬ T k)(o:Nat):w'.cell? ⟨k,o,G⟩=w.cell? ⟨k,o,G⟩:=Φ (w:=w) (h.block k a b)
theorem Mv.froz(h:Mv B T T' w w'){k:Nat}(a:k<w.heap.size)(b:¬ T k)(o:Nat):w'.frozen? ⟨k,o,G⟩=w.frozen? ⟨k,o,G⟩:=gt (w:=w) (h.block k a b)
theorem Mv.also(h:Mv B T T' w w')(p:Nat):Mv B (λk=>k=p \/ T k) (λk=>k=p \/ T' k) w w' :=
 ⟨h.below,λk a b=>h.block k a (λx=>b (ao x)),λk a=>by
   rcases a with x|x
   ·exact aj (aj x)
   ·rcases h.fresh k x with y|y
    ·exact aj (ao y)
    ·exact ao y⟩
end
theorem vu{k:mx}{a b:Int}(h:a=b):μ (.int k a)=μ (.int k b):=by rw[h]
theorem zAx{k:mx}{a c:Int}{b b':Bool}(h:a=c)(h1:b=b'):μ (Ψ #[.int k a,ν b])=μ (Ψ #[.int k c,ν b']):=by rw[h,h1]
theorem zjw{k:mx}{a d:Int}{b b' c e:Bool}(h:a=d)(h1:b=b')(h2:c=e):μ (Ψ #[.int k a,ν b,ν c])=μ (Ψ #[.int k d,ν b',ν e]):=by rw[h,h1,h2]
theorem zj{k l:mx}{a d c e:Int}{b b':Bool}(h:a=d)(h1:b=b')(h2:c=e):μ (Ψ #[.int k a,ν b,.int l c])=μ (Ψ #[.int k d,ν b',.int l e]):=by rw[h,h1,h2]
theorem zsX(a b:Int)(w:u)(f:0<=a)(c:a<=65535)(hb:0<=b)(d:b<=65535):Δ ω 372 #[J Y a,J Y b] w λe w'=>e=μ (Ψ #[J Y (M.addN a b),ν (M.addC a b),ν (M.addV a b)])/\w'=w:=by
 go_enter func372,ntmps372;go_wp2
 go_ret3
 exact⟨zjw (bj _) (M.carry_add a b f c hb d) (M.over_add a b f c hb d),D⟩
theorem zsY(a b:Int)(w:u)(f:0<=a)(c:a<=65535)(hb:0<=b)(d:b<=65535):Δ ω 373 #[J Y a,J Y b] w λe w'=>e=μ (Ψ #[J Y (M.subN a b),ν (M.subC a b),ν (M.subV a b)])/\w'=w:=by
 go_enter func373,ntmps373;go_wp2
 go_ret3
 exact⟨zjw (bj _) D (M.over_sub a b f c hb d),D⟩
theorem zyE(a b:Int)(w:u)(f:0<=a)(c:a<=65535)(hb:0<=b)(d:b<=65535):Δ ω 379 #[J Y a,J Y b] w λe w'=>e=μ (Ψ #[J Y (M.mulN a b),ν (M.mulC a b)])/\w'=w:=by
 have g:=M.mul_bd a b f c hb d;go_enter func379,ntmps379;go_wp2
 go_ret2
 exact⟨zAx (bj _) (M.mul_high _ g.1),D⟩
end Go.Proofs.YthghjlinhokimaaGreatDoor
namespace Go.Proofs.YthghjlinhokimaaGreatDoor.C
structure Cpu where
 R:List Int
 PC:Int
 Z:Bool
 N:Bool
 C:Bool
 V:Bool
 May:Bool
 Waits:Bool
deriving DecidableEq
structure Mem (σ : Type) where
 rd:σ->Int->Int × σ
 wr:σ->Int->Int->σ
 fuel:σ->Nat:=λ_=>4
structure St (σ : Type) where
 c:Cpu
 s:σ
 n:Int
def Cpu.r(c:Cpu)(i:Int):Int:=c.R.getD i.toNat 0
def Cpu.set(c:Cpu)(i:Int)(x:Int):Cpu:={ c with R:=c.R.set i.toNat x }
def Cpu.zero:Cpu:=⟨[0,0,0,0,0,0,0,0],0,ξ,ξ,ξ,ξ,ξ,ξ⟩
def sign(c:Cpu):Int:=(if c.Z then 1 else 0)+(if c.N then 2 else 0)+(if c.C then 4 else 0)+(if c.V then 8 else 0)+(if c.May then 16 else 0)
def Cpu.ok(c:Cpu):Prop:=c.R.length=8/\(∀ x∈c.R,0<=x/\x<=65535)/\0<=c.PC/\c.PC<=65535
section
variable {σ : Type} (m : Mem σ)
def Mem.rdw(s:σ)(a:Int):Int × σ:=((m.rd s a).1*256+(m.rd (m.rd s a).2 ((a+1)%65536)).1,(m.rd (m.rd s a).2 ((a+1)%65536)).2)
def Mem.wrw(s:σ)(a n:Int):σ:=m.wr (m.wr s a (n/256)) ((a+1)%65536) (n%256)
def push(x:St σ)(n:Int):St σ:=⟨x.c.set 7 ((x.c.r 7-2)%65536),m.wrw x.s ((x.c.r 7-2)%65536) n,x.n⟩
def popV(x:St σ):Int:=(m.rdw x.s (x.c.r 7)).1
def pop(x:St σ):St σ:=⟨x.c.set 7 ((x.c.r 7+2)%65536),(m.rdw x.s (x.c.r 7)).2,x.n⟩
def toPC(x:St σ)(a:Int):St σ:={ x with c:={ x.c with PC:=a } }
def leave(x:St σ)(a:Int):St σ :=
 let y:=push m (push m x x.c.PC) (sign (push m x x.c.PC).c)
 ⟨{ y.c with May:=ξ,Waits:=ξ,PC:=(m.rdw y.s a).1 },(m.rdw y.s a).2,y.n⟩
def comeBack(x:St σ):St σ :=
 let n:=popV m x
 let y:=pop m x
 let z:=pop m y
 ⟨{ z.c with PC:=popV m y,Z:=decide (n%2=1),N:=decide (n/2%2=1),C:=decide (n/4%2=1),V:=decide (n/8%2=1),May:=decide (n/16%2=1) },z.s,z.n⟩
def setR(x:St σ)(d v:Int):St σ:={ x with c:=x.c.set d v }
def signs(x:St σ)(n:Int)(c v:Bool):St σ:={ x with c:={ x.c with Z:=n == 0,N:=decide (32768<=n),C:=c,V:=v } }
def flN(k:Nat)(a b:Int):Int:=if k=7 \/ k=15 then M.addN a b else if k=8 \/ k=14 then M.subN a b else if k=9 then bW .and Y a b else if k=10 then bW .or Y a b else if k=11 then bW .xor Y a b else M.mulN a b
def flC(k:Nat)(a b:Int):Bool:=if k=7 \/ k=15 then M.addC a b else if k=8 \/ k=14 then M.subC a b else if k=9 \/ k=10 \/ k=11 then ξ else M.mulC a b
def flV(k:Nat)(a b:Int):Bool:=if k=7 \/ k=15 then M.addV a b else if k=8 \/ k=14 then M.subV a b else ξ
def reckon(x:St σ)(k:Nat)(a b:Int):St σ:=signs x (flN k a b) (flC k a b) (flV k a b)
def jump(x:St σ)(w:Int):St σ:=⟨{ x.c with PC:=w },x.s,x.n+1⟩
def both(x:St σ)(k:Nat)(d s:Int):St σ:=setR (reckon x k (x.c.r d) (x.c.r s)) d (flN k (x.c.r d) (x.c.r s))
def shift(x:St σ)(d n:Int)(o:Bool):St σ:=setR (signs x n o ξ) d n
def act(x:St σ)(k:Nat)(d s n w:Int):St σ :=
 match k with
 | 1=>setR x d (x.c.r s)
 | 2=>setR x d w
 | 3=>⟨x.c.set d (m.rdw x.s ((x.c.r s+n)%65536)).1,(m.rdw x.s ((x.c.r s+n)%65536)).2,x.n⟩
 | 4=>{ x with s:=m.wrw x.s ((x.c.r d+n)%65536) (x.c.r s) }
 | 5=>⟨x.c.set d (m.rd x.s ((x.c.r s+n)%65536)).1,(m.rd x.s ((x.c.r s+n)%65536)).2,x.n⟩
 | 6=>{ x with s:=m.wr x.s ((x.c.r d+n)%65536) (x.c.r s%256) }
 | 7=>both x 7 d s
 | 8=>both x 8 d s
 | 9=>both x 9 d s
 | 10=>both x 10 d s
 | 11=>both x 11 d s
 | 12=>shift x d (M.shlN (x.c.r d) n) (M.shlC (x.c.r d) n)
 | 13=>shift x d (M.shrN (x.c.r d) n) (M.shrC (x.c.r d) n)
 | 14=>reckon x 14 (x.c.r d) (x.c.r s)
 | 15=>setR (reckon x 15 (x.c.r d) (n%65536)) d (flN 15 (x.c.r d) (n%65536))
 | 16=>jump x w
 | 17=>if x.c.Z then jump x w else x
 | 18=>if x.c.N then jump x w else x
 | 19=>if x.c.C then jump x w else x
 | 20=>toPC (push m x x.c.PC) w
 | 21=>toPC (pop m x) (popV m x)
 | 22=>push m x (x.c.r s)
 | 23=>setR (pop m x) d (popV m x)
 | 24=>{ x with c:={ x.c with May:=Γ } }
 | 25=>{ x with c:={ x.c with May:=ξ } }
 | 26=>comeBack m x
 | 27=>{ x with c:={ x.c with Waits:=Γ } }
 | 28=>both x 28 d s
 | 29=>if x.c.Z then x else jump x w
 | 31=>leave m x 4
 | _=>x
def word1(c:Cpu)(s:σ):Int:=(m.rdw s c.PC).1
def word2(c:Cpu)(s:σ):Int:=if O.rLen (word1 m c s)=2 then (m.rdw (m.rdw s c.PC).2 ((c.PC+2)%65536)).1 else 0
def behind(c:Cpu)(s:σ):St σ :=
 ⟨{ c with PC:=(c.PC+2*O.rLen (word1 m c s))%65536 },if O.rLen (word1 m c s)=2 then (m.rdw (m.rdw s c.PC).2 ((c.PC+2)%65536)).2 else (m.rdw s c.PC).2,0⟩
def order(c:Cpu)(s:σ):St σ :=
 act m { behind m c s with n:=K.cyc (O.rk (word1 m c s)) } (O.rk (word1 m c s)) (O.rD (word1 m c s)) (O.rS (word1 m c s)) (O.rN (word1 m c s)) (O.rW (word1 m c s) (word2 m c s))
def step(c:Cpu)(s:σ)(a:Bool):St σ :=
 if a && c.May then { leave m ⟨c,s,0⟩ 2 with n:=6 }
 else if c.Waits then ⟨c,s,1⟩
 else order m c s
end
/-! ### what is in range stays in range -/
theorem Cpu.r_bd{c:Cpu}(h:c.ok)(i:Int):0<=c.r i/\c.r i<=65535:=by
 unfold Cpu.r;by_cases hi:i.toNat<c.R.length
 ·rw[gH,aq hi]
  exact h.2.1 _ (List.getElem_mem hi)
 ·rw[gH,ex (by omega)];simp
theorem Cpu.ok_set{c:Cpu}(h:c.ok)(i x:Int)(b:0<=x)(h1:x<=65535):(c.set i x).ok:=by
 refine⟨by simp[Cpu.set,h.1],λy a=>?_,h.2.2.1,h.2.2.2⟩;rcases qj a with a|rfl
 ·exact h.2.1 y a
 ·exact⟨b,h1⟩
theorem Cpu.r_set{c:Cpu}(h:c.ok)(i:Nat)(hi:i<8)(x:Int):(c.set i x).r i=x:=by
 unfold Cpu.r Cpu.set;simp only[bR];rw[gH,gq (by rw[h.1];exact hi)];rfl
theorem Cpu.ok_pc{c:Cpu}(h:c.ok)(x:Int)(a:0<=x)(h1:x<=65535):Cpu.ok { c with PC:=x }:=⟨h.1,h.2.1,a,h1⟩
theorem sign_bd(c:Cpu):0<=sign c/\sign c<=31:=by unfold sign;split <;> split <;> split <;> split <;> split <;> omega
end Go.Proofs.YthghjlinhokimaaGreatDoor.C
namespace Go.Proofs.YthghjlinhokimaaGreatDoor
open Go.ChangeShapes Go.WideShapes Go.ChangeAt Go.RowKit Go.Proofs.Tryz
theorem cutW{P:bX}{b:Code}{η:ii->dH->u->Prop}{a:dH}{w:u}(K:u->Prop)(h:K w)(k:∀ w',K w'->b.wp P η a w'):b.wp P η a w:=k w h
abbrev fw(n:Nat)(cs:Array π × Array π):π:=.func (.func n) cs.1 cs.2
abbrev fv(n:Nat)(cs:Array π):π:=.func (.func n) #[] cs
def Tw{σ:Type}(T:σ->Nat->Prop)(w:u)(s:σ)(k:Nat):Prop:=T s k \/ ∃ cs fr,w.heap[k]?=A (χ cs 104 fr)
structure RS {σ : Type} (m : C.Mem σ) (B : Nat) (nr nw : Nat) (cr cw : Array π × Array π) (I : u -> σ -> Prop) (T : σ -> Nat -> Prop) : Prop where
 lt:∀ {w s},I w s->∀ k,T s k->k<w.heap.size
 keep:∀ {w w' s},I w s->w.heap.size<=w'.heap.size->(∀ k,Tw T w s k->w'.heap[k]?=w.heap[k]?)->I w' s
 shapes:∀ {w s},I w s->br w
 gT:∀ {s},T s 2
 byte:∀ s a,0<=(m.rd s a).1/\(m.rd s a).1<=255
 frd:∀ s a,m.fuel s<=m.fuel (m.rd s a).2
 fwr:∀ s a b,m.fuel s<=m.fuel (m.wr s a b)+1
 big:∀ {w s},I w s->B<=w.heap.size
 read:∀ w s (a:Int),0<=a->a<=65535->I w s->Δ ω 210 #[ac #[fw nr cr,fw nw cw],J Y a] w λe w'=>e=μ (J au (m.rd s a).1)/\I w' (m.rd s a).2/\Mv B (Tw T w s) (Tw T w' (m.rd s a).2) w w'
 write:∀ w s (a b:Int),0<=a->a<=65535->0<=b->b<=255->1<=m.fuel s->I w s->Δ ω 298 #[ac #[fw nr cr,fw nw cw],J Y a,J au b] w λe w'=>e=μ (Ψ #[])/\I w' (m.wr s a b)/\Mv B (Tw T w s) (Tw T w' (m.wr s a b)) w w'
theorem Mv.weak{B:Nat}{T T' T'':Nat->Prop}{w w':u}(h:Mv B T T' w w')(a:∀ k,T'' k->T' k \/ w.heap.size<=k):Mv B T T'' w w' :=
 ⟨h.below,h.block,λk b=>(a k b).elim (h.fresh k) ao⟩
section
variable {σ : Type} {T : σ -> Nat -> Prop} {w w' : u} {s : σ} {k : Nat}
theorem Tw.same(e:w'.heap[k]?=w.heap[k]?)(h:Tw T w' s k):Tw T w s k:=h.imp id (λ⟨cs,fr,x⟩=>⟨cs,fr,by rw[<- e];exact x⟩)
theorem Tw.of(h:¬ T s k){cs:Array π}{t:aJ}{fr:Nat × Nat}(e:w.heap[k]?=A (χ cs t fr))(a:t≠104):¬ Tw T w s k:=λb=>b.elim h (λ⟨c,d,x⟩=>by
 rw[e] at x;simp only[aZ,eJ] at x;exact a x.2.1)
theorem Tw.set{a:cK}{v:π}(h:Tw T (w.setCell a v) s k):Tw T w s k:=h.imp id (λ⟨cs,fr,x⟩=>by
 simp only[jn,j4] at x;split at x
 ·revert x
  cases w.heap[k]? with
  | none=>intro x;cases x
  | some o =>
   cases o <;> intro x <;> simp at x <;> (obtain⟨_,rfl,_⟩:=x;exact⟨_,_,D⟩)
 ·exact⟨cs,fr,x⟩)
theorem Tw.sets{b:Nat}:∀ {vs:List π} {o:Nat} {w:u},Tw T (w.setCells b o vs) s k->Tw T w s k
 | [],o,w,h=>h
 | v::vs,o,w,h=>Tw.set (Tw.sets (vs:=vs) h)
theorem Tw.low(hb:Below w.heap.size w w')(h:Tw T w' s k):Tw T w s k \/ w.heap.size<=k:=by
 rcases iz k w.heap.size with a|a
 ·exact aj (h.same (hb.block k a))
 ·exact ao a
theorem Tw.lt(a:∀ k,T s k->k<w.heap.size)(h:Tw T w s k):k<w.heap.size:=h.elim (a k) (λ⟨cs,fr,x⟩=>(aa.1 x).1)
end
def jk(c:C.Cpu):List π:=c.R.map (J Y)++[J Y c.PC,ν c.Z,ν c.N,ν c.C,ν c.V,ν c.May,ν c.Waits]
def dJ(c:C.Cpu)(fr fw:π)(n:Int):Array π:=(jk c++[fr,fw,J Q n]).toArray
abbrev jY(c:C.Cpu):π:=ac #[J Y (c.r 0),J Y (c.r 1),J Y (c.r 2),J Y (c.r 3),J Y (c.r 4),J Y (c.r 5),J Y (c.r 6),J Y (c.r 7),J Y c.PC,ν c.Z,ν c.N,ν c.C,ν c.V,ν c.May,ν c.Waits]
theorem rF{l:List Int}(h:l.length=8):∃ a0 a1 a2 a3 a4 a5 a b,l=[a0,a1,a2,a3,a4,a5,a,b]:=by
 match l,h with
 | [a0,a1,a2,a3,a4,a5,a,b],_=>exact⟨a0,a1,a2,a3,a4,a5,a,b,D⟩
section
variable {σ : Type} {m : C.Mem σ} {B nr nw : Nat} {cr cw : Array π × Array π} {I : u -> σ -> Prop} {T : σ -> Nat -> Prop}
structure PI (B : Nat) (nr nw : Nat) (cr cw : Array π × Array π) (I : u -> σ -> Prop) (T : σ -> Nat -> Prop) (w : u) (p : Nat) (x : C.St σ) : Prop where
 inv:I w x.s
 own:¬ T x.s p
 big:B<=p
 blk:w.heap[p]?=A (χ (dJ x.c (fw nr cr) (fw nw cw) x.n) 270 (0,0))
 ok:x.c.ok
def PM(B:Nat)(T:σ->Nat->Prop)(p:Nat)(s s':σ)(w w':u):Prop:=Mv B (λk=>k=p \/ Tw T w s k) (λk=>k=p \/ Tw T w' s' k) w w'
theorem PI.lt{w:u}{p:Nat}{x:C.St σ}(h:PI B nr nw cr cw I T w p x):p<w.heap.size:=(aa.1 h.blk).1
theorem PI.ownW{w:u}{p:Nat}{x:C.St σ}(h:PI B nr nw cr cw I T w p x):¬ Tw T w x.s p:=Tw.of h.own h.blk (by decide)
theorem PI.frozen{w:u}{p:Nat}{x:C.St σ}(h:PI B nr nw cr cw I T w p x)(i:Nat):w.frozen? ⟨p,i,G⟩=ξ:=Lib.frozen_of_heap h.blk i
theorem zlq{c:C.Cpu}(hc:c.R.length=8)(fr fw:π)(n:Int):(∀ i:Nat,i<8->(dJ c fr fw n)[i]?=A (J Y (c.r i)))/\(dJ c fr fw n)[8]?=A (J Y c.PC)/\(dJ c fr fw n)[9]?=A (ν c.Z)/\(dJ c fr fw n)[10]?=A (ν c.N)/\(dJ c fr fw n)[11]?=A (ν c.C) /\
  (dJ c fr fw n)[12]?=A (ν c.V)/\(dJ c fr fw n)[13]?=A (ν c.May)/\(dJ c fr fw n)[14]?=A (ν c.Waits)/\(dJ c fr fw n)[15]?=A fr/\(dJ c fr fw n)[16]?=A fw/\(dJ c fr fw n)[17]?=A (J Q n):=by
 obtain⟨a0,a1,a2,a3,a4,a5,a,b,h⟩:=rF hc;unfold dJ jk C.Cpu.r;rw[h];refine⟨λi hi=>?_,D,D,D,D,D,D,D,D,D,D⟩;have:i=0 \/ i=1 \/ i=2 \/ i=3 \/ i=4 \/ i=5 \/ i=6 \/ i=7:=by omega
 rcases this with rfl|rfl|rfl|rfl|rfl|rfl|rfl|rfl <;> rfl
theorem PI.reg{w:u}{p:Nat}{x:C.St σ}(h:PI B nr nw cr cw I T w p x)(i:Nat)(hi:i<8):w.cell? ⟨p,i,G⟩=A (J Y (x.c.r i)):=by
 rw[Lib.cell_of_heap h.blk i];exact(zlq h.ok.1 _ _ _).1 i hi
theorem PI.cells{w:u}{p:Nat}{x:C.St σ}(h:PI B nr nw cr cw I T w p x):w.cell? ⟨p,8,G⟩=A (J Y x.c.PC)/\w.cell? ⟨p,9,G⟩=A (ν x.c.Z)/\w.cell? ⟨p,10,G⟩=A (ν x.c.N)/\w.cell? ⟨p,11,G⟩=A (ν x.c.C)/\w.cell? ⟨p,12,G⟩=A (ν x.c.V) /\
  w.cell? ⟨p,13,G⟩=A (ν x.c.May)/\w.cell? ⟨p,14,G⟩=A (ν x.c.Waits)/\w.cell? ⟨p,15,G⟩=A (fw nr cr)/\w.cell? ⟨p,16,G⟩=A (fw nw cw)/\w.cell? ⟨p,17,G⟩=A (J Q x.n):=by
 have e:=λi=>Lib.cell_of_heap h.blk i
 obtain⟨_,g,j,h10,h11,h12,h13,a,b,d,f⟩:=zlq h.ok.1 (fw nr cr) (fw nw cw) x.n;exact⟨(e 8).trans g,(e 9).trans j,(e 10).trans h10,(e 11).trans h11,(e 12).trans h12,(e 13).trans h13,(e 14).trans a,(e 15).trans b,(e 16).trans d,(e 17).trans f⟩
theorem PI.regs{w:u}{p:Nat}{x:C.St σ}(h:PI B nr nw cr cw I T w p x):w.cell? ⟨p,0,G⟩=A (J Y (x.c.r 0))/\w.cell? ⟨p,1,G⟩=A (J Y (x.c.r 1))/\w.cell? ⟨p,2,G⟩=A (J Y (x.c.r 2))/\w.cell? ⟨p,3,G⟩=A (J Y (x.c.r 3)) /\
  w.cell? ⟨p,4,G⟩=A (J Y (x.c.r 4))/\w.cell? ⟨p,5,G⟩=A (J Y (x.c.r 5))/\w.cell? ⟨p,6,G⟩=A (J Y (x.c.r 6))/\w.cell? ⟨p,7,G⟩=A (J Y (x.c.r 7)) :=
 ⟨h.reg 0 (by omega),h.reg 1 (by omega),h.reg 2 (by omega),h.reg 3 (by omega),h.reg 4 (by omega),h.reg 5 (by omega),h.reg 6 (by omega),h.reg 7 (by omega)⟩
theorem vN{w:u}{b i:Nat}{cs:Array π}{t:aJ}{fr:Nat × Nat}(h:w.heap[b]?=A (χ cs t fr))(v:π):(w.setCell ⟨b,i,G⟩ v).heap[b]?=A (χ (cs.setIfInBounds i v) t fr):=by
 simp[jn,j4,h]
theorem wo(w:u)(a:cK)(v:π):(w.setCell a v).heap.size=w.heap.size:=by simp[jn]
theorem PI.put(R:RS m B nr nw cr cw I T){w:u}{p:Nat}{x:C.St σ}(h:PI B nr nw cr cw I T w p x)(i:Nat)(v:π)(a:C.Cpu)(d:Int)(b:a.ok)(hc:(dJ x.c (fw nr cr) (fw nw cw) x.n).setIfInBounds i v=dJ a (fw nr cr) (fw nw cw) d):PI B nr nw cr cw I T (w.setCell ⟨p,i,G⟩ v) p ⟨a,x.s,d⟩ :=
 ⟨R.keep h.inv (by rw[wo];exact ψ _) (λk f=>cF _ _ _ _ (λe=>h.ownW (by have g:k=p:=e;rw[<- g];exact f))),h.own,h.big,by rw[vN h.blk,hc],b⟩
theorem zq9{c:C.Cpu}(hc:c.R.length=8)(fr fw:π)(n:Int)(i:Nat)(hi:i<8)(x:Int):(dJ c fr fw n).setIfInBounds i (J Y x)=dJ (c.set i x) fr fw n:=by
 obtain⟨a0,a1,a2,a3,a4,a5,a,b,h⟩:=rF hc;unfold dJ jk C.Cpu.set;rw[h];have:i=0 \/ i=1 \/ i=2 \/ i=3 \/ i=4 \/ i=5 \/ i=6 \/ i=7:=by omega
 rcases this with rfl|rfl|rfl|rfl|rfl|rfl|rfl|rfl <;> rfl
theorem wW{c:C.Cpu}(hc:c.R.length=8)(fr fw:π)(n:Int):(∀ x,(dJ c fr fw n).setIfInBounds 8 (J Y x)=dJ { c with PC:=x } fr fw n)/\(∀ x,(dJ c fr fw n).setIfInBounds 9 (ν x)=dJ { c with Z:=x } fr fw n)/\(∀ x,(dJ c fr fw n).setIfInBounds 10 (ν x)=dJ { c with N:=x } fr fw n) /\
 (∀ x,(dJ c fr fw n).setIfInBounds 11 (ν x)=dJ { c with C:=x } fr fw n)/\(∀ x,(dJ c fr fw n).setIfInBounds 12 (ν x)=dJ { c with V:=x } fr fw n)/\(∀ x,(dJ c fr fw n).setIfInBounds 13 (ν x)=dJ { c with May:=x } fr fw n) /\
 (∀ x,(dJ c fr fw n).setIfInBounds 14 (ν x)=dJ { c with Waits:=x } fr fw n)/\(∀ x,(dJ c fr fw n).setIfInBounds 17 (J Q x)=dJ c fr fw x):=by
 obtain⟨a0,a1,a2,a3,a4,a5,a,b,h⟩:=rF hc;unfold dJ jk;rw[h];exact⟨λ_=>D,λ_=>D,λ_=>D,λ_=>D,λ_=>D,λ_=>D,λ_=>D,λ_=>D⟩
variable {w : u} {p : Nat} {x : C.St σ}
theorem PI.putR(R:RS m B nr nw cr cw I T)(h:PI B nr nw cr cw I T w p x)(i:Nat)(hi:i<8)(v:Int)(a:0<=v)(h1:v<=65535):PI B nr nw cr cw I T (w.setCell ⟨p,i,G⟩ (J Y v)) p ⟨x.c.set i v,x.s,x.n⟩ :=
 h.put R i _ _ _ (C.Cpu.ok_set h.ok _ _ a h1) (zq9 h.ok.1 _ _ _ i hi v)
theorem PI.putPC(R:RS m B nr nw cr cw I T)(h:PI B nr nw cr cw I T w p x)(v:Int)(a:0<=v)(h1:v<=65535):PI B nr nw cr cw I T (w.setCell ⟨p,8,G⟩ (J Y v)) p ⟨{ x.c with PC:=v },x.s,x.n⟩ :=
 h.put R 8 _ _ _ (C.Cpu.ok_pc h.ok v a h1) ((wW h.ok.1 _ _ _).1 v)
theorem PI.putZ(R:RS m B nr nw cr cw I T)(h:PI B nr nw cr cw I T w p x)(v:Bool):PI B nr nw cr cw I T (w.setCell ⟨p,9,G⟩ (ν v)) p ⟨{ x.c with Z:=v },x.s,x.n⟩:=h.put R 9 _ _ _ h.ok ((wW h.ok.1 _ _ _).2.1 v)
theorem PI.putN(R:RS m B nr nw cr cw I T)(h:PI B nr nw cr cw I T w p x)(v:Bool):PI B nr nw cr cw I T (w.setCell ⟨p,10,G⟩ (ν v)) p ⟨{ x.c with N:=v },x.s,x.n⟩:=h.put R 10 _ _ _ h.ok ((wW h.ok.1 _ _ _).2.2.1 v)
theorem PI.putC(R:RS m B nr nw cr cw I T)(h:PI B nr nw cr cw I T w p x)(v:Bool):PI B nr nw cr cw I T (w.setCell ⟨p,11,G⟩ (ν v)) p ⟨{ x.c with C:=v },x.s,x.n⟩:=h.put R 11 _ _ _ h.ok ((wW h.ok.1 _ _ _).2.2.2.1 v)
theorem PI.putV(R:RS m B nr nw cr cw I T)(h:PI B nr nw cr cw I T w p x)(v:Bool):PI B nr nw cr cw I T (w.setCell ⟨p,12,G⟩ (ν v)) p ⟨{ x.c with V:=v },x.s,x.n⟩:=h.put R 12 _ _ _ h.ok ((wW h.ok.1 _ _ _).2.2.2.2.1 v)
theorem PI.putMay(R:RS m B nr nw cr cw I T)(h:PI B nr nw cr cw I T w p x)(v:Bool):PI B nr nw cr cw I T (w.setCell ⟨p,13,G⟩ (ν v)) p ⟨{ x.c with May:=v },x.s,x.n⟩:=h.put R 13 _ _ _ h.ok ((wW h.ok.1 _ _ _).2.2.2.2.2.1 v)
theorem PI.putWaits(R:RS m B nr nw cr cw I T)(h:PI B nr nw cr cw I T w p x)(v:Bool):PI B nr nw cr cw I T (w.setCell ⟨p,14,G⟩ (ν v)) p ⟨{ x.c with Waits:=v },x.s,x.n⟩:=h.put R 14 _ _ _ h.ok ((wW h.ok.1 _ _ _).2.2.2.2.2.2.1 v)
theorem PI.putCyc(R:RS m B nr nw cr cw I T)(h:PI B nr nw cr cw I T w p x)(v:Int):PI B nr nw cr cw I T (w.setCell ⟨p,17,G⟩ (J Q v)) p ⟨x.c,x.s,v⟩:=h.put R 17 _ _ _ h.ok ((wW h.ok.1 _ _ _).2.2.2.2.2.2.2 v)
theorem PI.kept(R:RS m B nr nw cr cw I T)(h:PI B nr nw cr cw I T w p x){w':u}(hb:Below w.heap.size w w'):PI B nr nw cr cw I T w' p x :=
 ⟨R.keep h.inv hb.size (λk a=>hb.block k (a.lt (R.lt h.inv))),h.own,h.big,(hb.block p h.lt).trans h.blk,h.ok⟩
theorem PI.moved(h:PI B nr nw cr cw I T w p x){w':u}{s':σ}(b:I w' s')(a:Mv B (Tw T w x.s) (Tw T w' s') w w'):PI B nr nw cr cw I T w' p ⟨x.c,s',x.n⟩ :=
 ⟨b,λd=>by rcases a.fresh p (aj d) with y|y;exact h.ownW y;have:=h.lt;omega,h.big,(a.block p h.lt h.ownW).trans h.blk,h.ok⟩
theorem PI.same(R:RS m B nr nw cr cw I T)(h:PI B nr nw cr cw I T w p x){w':u}(e:w'.heap=w.heap):PI B nr nw cr cw I T w' p x :=
 ⟨R.keep h.inv (by rw[e];exact ψ _) (λk _=>by rw[e]),h.own,h.big,by rw[e];exact h.blk,h.ok⟩
theorem PI.movedS(R:RS m B nr nw cr cw I T)(h:PI B nr nw cr cw I T w p x){w0 w1:u}{s':σ}(a:I w1 s')(b:Mv B (Tw T w0 x.s) (Tw T w1 s') w0 w1)(e:w0.heap=w.heap):PI B nr nw cr cw I T w1 p ⟨x.c,s',x.n⟩:=(h.same R e).moved a b
theorem PI.invS(R:RS m B nr nw cr cw I T)(h:PI B nr nw cr cw I T w p x){w':u}(e:w'.heap=w.heap):I w' x.s:=(h.same R e).inv
theorem PI.after(h:PI B nr nw cr cw I T w p x){w0 w1:u}{T':Nat->Prop}(a:Mv B (Tw T w0 x.s) T' w0 w1)(e:w0.heap=w.heap):(∀ i,w1.cell? ⟨p,i,G⟩=w.cell? ⟨p,i,G⟩)/\(∀ i,w1.frozen? ⟨p,i,G⟩=ξ)/\p<w1.heap.size:=by
 have hb:w1.heap[p]?=w.heap[p]?:=by rw[a.block p (by rw[e];exact h.lt) (λy=>h.ownW (y.same (by rw[e]))),e]
 exact⟨λi=>Φ (w:=w) hb,λi=>Lib.frozen_of_heap (hb.trans h.blk) i,Θ (by rw[e];exact h.lt) a.size⟩
theorem PI.hB(R:RS m B nr nw cr cw I T)(h:PI B nr nw cr cw I T w p x):B<=w.heap.size:=R.big h.inv
theorem PM.refl(B:Nat)(T:σ->Nat->Prop)(p:Nat)(s:σ)(w:u):PM B T p s s w w:=Mv.refl _ _ _
theorem PM.set{s s':σ}{w w':u}(h:PM B T p s s' w w')(hB:B<=p)(i:Nat)(v:π):PM B T p s s' w (w'.setCell ⟨p,i,G⟩ v):=(Mv.setCell h hB (aj (aj rfl)) v).weak (λk a=>aj (a.imp id Tw.set))
theorem PM.trans{s s' d:σ}{a b c:u}(h:PM B T p s s' a b)(k:PM B T p s' d b c):PM B T p s d a c:=Mv.trans h k
theorem PM.moved{s s' d:σ}{a b c:u}(h:PM B T p s s' a b)(k:Mv B (Tw T b s') (Tw T c d) b c):PM B T p s d a c:=Mv.trans h (k.also p)
theorem PM.kept{s s':σ}{a b c:u}(h:PM B T p s s' a b)(hB:B<=b.heap.size)(k:Below b.heap.size b c):PM B T p s s' a c:=(Mv.trans h (Mv.of_below hB k)).weak (λi hi=>hi.elim (λe=>aj (aj e)) (λy=>(y.low k).elim (λz=>aj (ao z)) (λz=>ao (ax (Mv.size h) z))))
theorem PM.drew{s s':σ}{w w':u}(h:PM B T p s s' w w'):PM B T p s s' w w'.drew:=Mv.drew h
theorem PM.alloc{s s':σ}{w w':u}(h:PM B T p s s' w w')(hB:B<=w.heap.size)(o:Obj):PM B T p s s' w (w'.alloc o):=(Mv.alloc h hB o).weak (λi hi=>hi.elim (λe=>aj (aj e)) (λy=>(y.low (stA (aR w') o)).elim (λz=>aj (ao z)) (λz=>ao (ax (Mv.size h) z))))
theorem PM.cell{s s':σ}{w w':u}(h:PM B T p s s' w w'){k:Nat}(a:k<w.heap.size)(hp:k≠p)(b:¬ Tw T w s k)(o:Nat):w'.cell? ⟨k,o,G⟩=w.cell? ⟨k,o,G⟩:=Mv.cell h a (λe=>e.elim hp b) o
theorem PM.froz{s s':σ}{w w':u}(h:PM B T p s s' w w'){k:Nat}(a:k<w.heap.size)(hp:k≠p)(b:¬ Tw T w s k)(o:Nat):w'.frozen? ⟨k,o,G⟩=w.frozen? ⟨k,o,G⟩:=Mv.froz h a (λe=>e.elim hp b) o
end
theorem zsZ(a:Int)(w:u)(c:0<=a)(b:a<=65535):Δ ω 209 #[J Y a] w λe w'=>e=μ (Ψ #[J au (a/256),J au (a%256)])/\w'=w:=by
 go_enter func209,ntmps209;go_wp2
 go_ret2
 exact⟨D,D⟩
theorem zAy(a b:Int)(w:u)(f:0<=a)(c:a<=255)(hb:0<=b)(d:b<=255):Δ ω 211 #[J au a,J au b] w λe w'=>e=μ (J Y (a*256+b))/\w'=w:=by
 go_enter func211,ntmps211;go_wp2;go_ret;exact⟨vu (M.joined a b f c hb d),D⟩
theorem zim(a n:Int)(w:u)(c:0<=a)(b:a<=65535)(f:0<=n)(d:n<=15):Δ ω 355 #[J Y a,J Q n] w λe w'=>e=μ (ν (M.hasB a n))/\w'=w:=by
 go_enter func355,ntmps355;go_wp2;go_ret;exact⟨sJ (M.has_of a n c b),D⟩
theorem zjx(n:Int)(w:u)(h:0<=n)(a:n<=15):Δ ω 354 #[J Q n] w λe w'=>e=μ (ν Γ)/\w'=w:=by
 go_enter func354,ntmps354;go_wp2;go_ret;exact⟨sJ (by simp;omega),D⟩
theorem zyF(a:Int)(w:u):Δ ω 301 #[J Y a,J Q 0] w λe w'=>e=μ (Ψ #[J Y a,ν ξ,J Q 0]) /\ ∃ k,w'=w.drewN k:=by
 go_enter func301,ntmps301;go_wp2_with (go_at_call 354;refine(zjx _ _ (by omega) (by omega)).mono ?_;rintro e w' ⟨rfl,rfl⟩)
 go_ret3
 exact⟨D,0,D⟩
theorem zvU(a n:Int)(w:u)(d:0<=a)(b:a<=65535)(f:1<=n)(c:n<=15):Δ ω 301 #[J Y a,J Q n] w λe w'=>e=μ (Ψ #[J Y (M.shlN a n),ν (M.hasB a (16-n)),J Q 0]) /\ ∃ k,w'=w.drewN k:=by
 have g:(n == 0)=ξ:=by simp;omega
 go_enter func301,ntmps301;go_wp2_with (go_at_call 354;refine(zjx _ _ (by omega) (by omega)).mono ?_;rintro e w' ⟨rfl,rfl⟩)
 go_quiet ((go_at_call 355;exact Calls.quiet_of_same (zim _ _ _ (by omega) (by omega) (by omega) (by omega))))
 go_wp2
 go_ret3
 exact⟨zj D D D,_,D⟩
theorem zra(a:Int)(c:0<=a)(b:a<=65535):M.shlN a 0=a:=by unfold M.shlN;simp;omega
theorem znU(a n:Int)(b:1<=n):M.shlC a n=M.hasB a (16-n):=by unfold M.shlC M.hasB;simp[b]
theorem zrb(a:Int):M.shrN a 0=a:=by unfold M.shrN;simp
theorem znV(a n:Int)(b:1<=n):M.shrC a n=M.hasB a (n-1):=by unfold M.shrC M.hasB;simp[b]
theorem zyG(a n:Int)(w:u)(d:0<=a)(b:a<=65535)(f:0<=n)(c:n<=15):Δ ω 301 #[J Y a,J Q n] w λe w'=>e=μ (Ψ #[J Y (M.shlN a n),ν (M.shlC a n),J Q 0]) /\ ∃ k,w'=w.drewN k:=by
 by_cases h:n=0
 ·subst h
  exact(zyF a w).mono λ_ _ h=>⟨h.1.trans (zj (zra a d b).symm (by simp[M.shlC]) D),h.2⟩
 ·exact(zvU a n w d b (by omega) c).mono λ_ _ h=>⟨h.1.trans (zj D (znU a n (by omega)).symm D),h.2⟩
theorem zyH(a:Int)(w:u):Δ ω 302 #[J Y a,J Q 0] w λe w'=>e=μ (Ψ #[J Y a,ν ξ,J Q 0]) /\ ∃ k,w'=w.drewN k:=by
 go_enter func302,ntmps302;go_wp2_with (go_at_call 354;refine(zjx _ _ (by omega) (by omega)).mono ?_;rintro e w' ⟨rfl,rfl⟩)
 go_ret3
 exact⟨D,0,D⟩
theorem zvV(a n:Int)(w:u)(d:0<=a)(b:a<=65535)(f:1<=n)(c:n<=15):Δ ω 302 #[J Y a,J Q n] w λe w'=>e=μ (Ψ #[J Y (M.shrN a n),ν (M.hasB a (n-1)),J Q 0]) /\ ∃ k,w'=w.drewN k:=by
 have g:(n == 0)=ξ:=by simp;omega
 go_enter func302,ntmps302;go_wp2_with (go_at_call 354;refine(zjx _ _ (by omega) (by omega)).mono ?_;rintro e w' ⟨rfl,rfl⟩)
 go_quiet ((go_at_call 355;exact Calls.quiet_of_same (zim _ _ _ (by omega) (by omega) (by omega) (by omega))))
 go_wp2
 go_ret3
 exact⟨zj D D D,_,D⟩
theorem zyI(a n:Int)(w:u)(d:0<=a)(b:a<=65535)(f:0<=n)(c:n<=15):Δ ω 302 #[J Y a,J Q n] w λe w'=>e=μ (Ψ #[J Y (M.shrN a n),ν (M.shrC a n),J Q 0]) /\ ∃ k,w'=w.drewN k:=by
 by_cases h:n=0
 ·subst h
  exact(zyH a w).mono λ_ _ h=>⟨h.1.trans (zj (zrb a).symm (by simp[M.shrC]) D),h.2⟩
 ·exact(zvV a n w d b (by omega) c).mono λ_ _ h=>⟨h.1.trans (zj D (znV a n (by omega)).symm D),h.2⟩
def jZ(n:Nat):π:=.func (.func n) #[] #[]
def lU(c:Nat):π:=.func (.func 382) #[] #[aB (A ⟨c,0,G⟩)]
def table(c9 a b:Nat):List (Int × π):=[(7,jZ 372),(15,jZ 372),(8,jZ 373),(14,jZ 373),(9,lU c9),(10,lU a),(11,lU b),(28,jZ 378)]
theorem znX(g:Nat)(w:u):Δ ω 374 #[.func (.func g) #[] #[]] w λe w'=>e=μ (lU w.heap.size)/\w'=w.alloc (χ #[jZ g] 439):=by
 go_enter func374,ntmps374;go_wp2;go_ret;exact⟨D,D⟩
theorem rV:Tryz.prog.underlying 428=A (.map 3 426):=by kernel_rfl
theorem cell_kept{w:u}{p:cK}{v:π}(h:w.cell? p=A v)(o:Obj):(w.alloc o).cell? p=A v:=by
 rw[aN]
 ·exact h
 ·unfold World.cell? at h
  split at h
  ·rename_i hb;exact(aa.1 hb).1
  ·cases h
theorem zjA(w:u)(v:π)(t:aJ):(w.alloc (χ #[v] t)).cell? ⟨w.heap.size,0,G⟩=A v:=by simp
theorem wZ(w:u):Δ ω 369 #[] w λe w'=>∃ b c9 f g,e=μ (.map (A b))/\nX w' b (table c9 f g) /\
 w'.cell? ⟨c9,0,G⟩=A (jZ 375)/\w'.cell? ⟨f,0,G⟩=A (jZ 376)/\w'.cell? ⟨g,0,G⟩=A (jZ 377)/\Below w.heap.size w w':=by
 have M:=@lL ω;have k:=zrc w;go_enter func369,ntmps369;go_wp2_with (first
  | (go_at_call 374;refine(znX _ _).mono ?_;rintro e w' ⟨rfl,rfl⟩)
  | (refine wX _ D _ _ _ 428 D 3 426 rV underlying3 w.heap.size [] D k 7 (jZ 372) D D D ?_;intro w1 l m)
  | (refine wX _ D _ _ _ 428 D 3 426 rV underlying3 w.heap.size [(7,jZ 372)] D l 15 (jZ 372) D D D ?_;intro w2 n o)
  | (refine wX _ D _ _ _ 428 D 3 426 rV underlying3 w.heap.size [(7,jZ 372),(15,jZ 372)] D n 8 (jZ 373) D D D ?_;intro P p q)
  | (refine wX _ D _ _ _ 428 D 3 426 rV underlying3 w.heap.size [(7,jZ 372),(15,jZ 372),(8,jZ 373)] D p 14 (jZ 373) D D D ?_;intro w4 r s)
  | (refine wX _ D _ _ _ 428 D 3 426 rV underlying3 w.heap.size [(7,jZ 372),(15,jZ 372),(8,jZ 373),(14,jZ 373)] D (r.alloc _) 9 (lU w4.heap.size) D D D ?_;intro h t i)
  | (refine wX _ D _ _ _ 428 D 3 426 rV underlying3 w.heap.size [(7,jZ 372),(15,jZ 372),(8,jZ 373),(14,jZ 373),(9,lU w4.heap.size)] D (t.alloc _) 10 (lU h.heap.size) D D D ?_;intro j v d)
  | (refine wX _ D _ _ _ 428 D 3 426 rV underlying3 w.heap.size [(7,jZ 372),(15,jZ 372),(8,jZ 373),(14,jZ 373),(9,lU w4.heap.size),(10,lU h.heap.size)] D (v.alloc _) 11 (lU j.heap.size) D D D ?_;intro w7 x a)
  | (refine wX _ D _ _ _ 428 D 3 426 rV underlying3 w.heap.size [(7,jZ 372),(15,jZ 372),(8,jZ 373),(14,jZ 373),(9,lU w4.heap.size),(10,lU h.heap.size),(11,lU j.heap.size)] D x 28 (jZ 378) D D D ?_;intro R y c))
 go_ret;have N:=c.cell _ _ (a.cell _ _ (cell_kept (d.cell _ _ (cell_kept (i.cell _ _ (zjA w4 (jZ 375) 439)) (χ #[jZ 376] 439))) (χ #[jZ 377] 439)));have z:=c.cell _ _ (a.cell _ _ (cell_kept (d.cell _ _ (zjA h (jZ 376) 439)) (χ #[jZ 377] 439)));have B:=c.cell _ _ (a.cell _ _ (zjA j (jZ 377) 439));have E:Below w.heap.size w (w.alloc (.map #[] 0)):=stA (aR w) _;have F:=s.grown w (q.grown w (o.grown w (m.grown w E (ψ _)) (ψ _)) (ψ _)) (ψ _);have H:=i.grown w (stA F _) (ψ _);have I:=d.grown w (stA H _) (ψ _);have L:=a.grown w (stA I _) (ψ _);exact⟨w.heap.size,w4.heap.size,h.heap.size,j.heap.size,D,y,N,z,B,c.grown w L (ψ _)⟩
section
variable {σ : Type} {m : C.Mem σ} {B nr nw : Nat} {cr cw : Array π × Array π} {I : u -> σ -> Prop} {T : σ -> Nat -> Prop}
theorem RS.kept(R:RS m B nr nw cr cw I T){w w':u}{s:σ}(h:I w s)(hb:Below w.heap.size w w'):I w' s:=R.keep h hb.size (λk a=>hb.block k (a.lt (R.lt h)))
theorem RS.out(R:RS m B nr nw cr cw I T){w:u}{s:σ}(h:I w s){k:Nat}(b:w.heap.size<=k):¬ T s k:=λa=>by have:=R.lt h k a;omega
theorem RS.outN(R:RS m B nr nw cr cw I T){w w0:u}{s:σ}{cs:Array π}{t:aJ}(h:I w s)(e:w0.heap=(w.alloc (χ cs t)).heap)(a:t≠104):¬ Tw T w0 s w.heap.size:=Tw.of (R.out h (ψ _)) (by rw[e];exact aM w _) a
theorem RS.box(R:RS m B nr nw cr cw I T){w w1:u}{s:σ}{cs:Array π}{t:aJ}{T':Nat->Prop}(h:I w s)(a:Mv B (Tw T (w.alloc (χ cs t)) s) T' (w.alloc (χ cs t)) w1)(b:t≠104:=by decide):w.heap.size<w1.heap.size /\ ∀ o,w1.cell? ⟨w.heap.size,o,G⟩=cs[o]?:=by
 refine⟨by have:=a.size;simp at this;omega,λo=>?_⟩;rw[a.cell (by simp) (R.outN h D b) o];exact ly _ _ _ _ D
theorem Mv.unbox{B:Nat}{T:σ->Nat->Prop}{s:σ}{T':Nat->Prop}{w w':u}{o:Obj}(h:Mv B (Tw T (w.alloc o) s) T' (w.alloc o) w')(hB:B<=w.heap.size):Mv B (Tw T w s) T' w w':=(((Mv.refl B (Tw T w s) w).alloc hB o).weak (λk a=>a.low (stA (aR w) o))).trans h
theorem zdA(R:RS m B nr nw cr cw I T)(a:Int)(n:0<=a)(g:a<=65535)(w:u)(s:σ)(h:I w s):Δ ω 131 #[ac #[fw nr cr,fw nw cw],J Y a] w λe w'=>e=μ (J Y (m.rdw s a).1)/\I w' (m.rdw s a).2/\Mv B (Tw T w s) (Tw T w' (m.rdw s a).2) w w':=by
 have l:=hid h;have b:=hid R;have hB:=R.big h;clear h R;unfold C.Mem.rdw;have p:IntKind.u16.wrap (a+1)=(a+1)%65536:=bj _;go_enter func131,ntmps131;go_wp2_with (first
  | (go_at_call 210;first
      | (refine(b.out.read _ (m.rd s a).2 ((a+1)%65536) (by omega) (by omega) i.out).mono ?_;rintro e w2 ⟨rfl,j,k⟩)
      | (refine(b.out.read _ s a n g (b.out.kept l.out (stA (aR _) _))).mono ?_;rintro e w1 ⟨rfl,d,f⟩;obtain⟨o,c⟩:=b.out.box l.out f;have c0:=c 0;have c1:=c 1;have i:=hid d;clear c d))
  | (go_at_call 211;refine(zAy _ _ _ (b.out.byte _ _).1 (b.out.byte _ _).2 (b.out.byte _ _).1 (b.out.byte _ _).2).mono ?_;rintro e w' ⟨rfl,rfl⟩))
 go_ret;exact⟨D,j,(f.trans k).unbox hB⟩
theorem zgb(R:RS m B nr nw cr cw I T)(a n:Int)(t:0<=a)(i:a<=65535)(v:0<=n)(j:n<=65535)(w:u)(s:σ)(k:2<=m.fuel s)(l:I w s):Δ ω 295 #[ac #[fw nr cr,fw nw cw],J Y a,J Y n] w λe w'=>e=μ (Ψ #[])/\I w' (m.wrw s a n)/\Mv B (Tw T w s) (Tw T w' (m.wrw s a n)) w w':=by
 have r:=hid l;have h:=hid R;have hB:=R.big l;have b:1<=m.fuel (m.wr s a (n/256)):=by have:=R.fwr s a (n/256);omega
 have c:1<=m.fuel s:=by omega
 have HFU1:=hid b;have HFU0:=hid c;clear l R k c b;unfold C.Mem.wrw;have y:IntKind.u16.wrap (a+1)=(a+1)%65536:=bj _;go_enter func295,ntmps295;go_wp2_with (first
  | (go_at_call 298;first
      | (refine(h.out.write _ (m.wr s a (n/256)) ((a+1)%65536) (n%256) (by omega) (by omega) (by omega) (by omega) HFU1.out o.out).mono ?_;rintro e w2 ⟨rfl,p,q⟩)
      | (refine(h.out.write _ s a (n/256) t i (by omega) (by omega) HFU0.out (h.out.kept r.out (stA (aR _) _))).mono ?_;rintro e w1 ⟨rfl,f,g⟩;obtain⟨x,d⟩:=h.out.box r.out g;have c0:=d 0;have c1:=d 1;have o:=hid f;clear d f))
  | (go_at_call 209;refine(zsZ n _ v j).mono ?_;rintro e w' ⟨rfl,rfl⟩))
 go_end0;exact⟨D,p,(g.trans q).unbox hB⟩
theorem RS.word(R:RS m B nr nw cr cw I T)(s:σ)(a:Int):0<=(m.rdw s a).1/\(m.rdw s a).1<=65535:=by
 have h1:=R.byte s a;have h2:=R.byte (m.rd s a).2 ((a+1)%65536);unfold C.Mem.rdw;simp only;omega
theorem RS.frdw(R:RS m B nr nw cr cw I T)(s:σ)(a:Int):m.fuel s<=m.fuel (m.rdw s a).2:=by
 unfold C.Mem.rdw;exact ax (R.frd s a) (R.frd _ _)
theorem RS.fwrw(R:RS m B nr nw cr cw I T)(s:σ)(a n:Int):m.fuel s<=m.fuel (m.wrw s a n)+2:=by
 unfold C.Mem.wrw;have h1:=R.fwr s a (n/256);have h2:=R.fwr (m.wr s a (n/256)) ((a+1)%65536) (n%256);omega
theorem RS.fpush(R:RS m B nr nw cr cw I T)(x:C.St σ)(n:Int):m.fuel x.s<=m.fuel (C.push m x n).s+2:=R.fwrw _ _ _
theorem iu(x:Int):IntKind.u16.wrap x=x%65536:=bj x
theorem zfO(R:RS m B nr nw cr cw I T)(n:Int)(y:0<=n)(j:n<=65535)(w:u)(p:Nat)(x:C.St σ)(d:2<=m.fuel x.s)(a:PI B nr nw cr cw I T w p x):Δ ω 285 #[aB (A ⟨p,0,G⟩),J Y n] w λe w'=>e=μ (Ψ #[])/\PI B nr nw cr cw I T w' p (C.push m x n)/\PM B T p x.s (C.push m x n).s w w':=by
 have z:=a.reg 7 (by omega);have k:=a.lt;have E:=a.frozen 7;have P:=C.Cpu.r_bd a.ok 7;have F:=iu (x.c.r 7-2);have t:=hid a;have i:=hid R;have f:=hid (a.putR R 7 (by omega) ((x.c.r 7-2)%65536) (by omega) (by omega));have l:=hid d;clear a R d;go_enter func285,ntmps285;go_wp2;go_region
 go_wp2;refine cutW (λW=>PI B nr nw cr cw I T W p ⟨x.c.set (7:Nat) ((x.c.r 7-2)%65536),x.s,x.n⟩/\PM B T p x.s x.s w W) ⟨f.out.same i.out D,((PM.refl B T p x.s w).set t.out.big 7 _).drew⟩ ?_;rintro W ⟨g,h⟩;have H:=g.reg 7 (by omega);rw[C.Cpu.r_set t.out.ok 7 (by omega)] at H;obtain⟨_,_,_,_,_,_,_,L,M,_⟩:=g.cells;have v:=g.lt;have o:=hid g;have N:=hid h;clear g h z k E F f;go_region_held3 (λw'=>w'.cell? ⟨p,7,G⟩=A (J Y ((x.c.r 7-2)%65536))/\w'.cell? ⟨p,15,G⟩=A (fw nr cr)/\w'.cell? ⟨p,16,G⟩=A (fw nw cw))
  ((go_keep;done))
  ((go_at_call 295;refine(zgb i.out _ _ (by omega) (by omega) y j _ x.s l.out ?_).mono ?_;(exact o.out.invS i.out D);rintro e w1 ⟨rfl,q,b⟩;obtain⟨k1,f1,U⟩:=o.out.after b D))
 go_wp2;go_end0;exact⟨D,o.out.movedS i.out q b D,N.out.drew.moved b⟩
theorem zjy(R:RS m B nr nw cr cw I T)(w:u)(p:Nat)(x:C.St σ)(b:PI B nr nw cr cw I T w p x):Δ ω 313 #[aB (A ⟨p,0,G⟩)] w λe w'=>e=μ (J Y (C.popV m x))/\PI B nr nw cr cw I T w' p (C.pop m x)/\PM B T p x.s (C.pop m x).s w w':=by
 have t:w.cell? ⟨p,7,G⟩=A (J Y (x.c.r 7)):=b.reg 7 (by omega);obtain⟨_,_,_,_,_,_,_,n,o,_⟩:=b.cells;have q:=b.lt;have h:=C.Cpu.r_bd b.ok 7;have i:=h.1;have j:=h.2;have g:=hid b;have d:=hid R;clear b R h;go_enter func313,ntmps313;go_wp2;go_region_held3 (λw'=>w'.cell? ⟨p,7,G⟩=A (J Y (x.c.r 7))/\w'.cell? ⟨p,15,G⟩=A (fw nr cr)/\w'.cell? ⟨p,16,G⟩=A (fw nw cw))
  ((go_keep;done))
  ((go_at_call 131;refine(zdA d.out (x.c.r 7) i j _ x.s ?_).mono ?_;(exact g.out.invS d.out D);rintro e w1 ⟨rfl,k,a⟩;obtain⟨k1,f1,v⟩:=g.out.after a D))
 have f:=g.out.movedS d.out k a D;have l:=hid (f.putR d.out 7 (by omega) ((x.c.r 7+2)%65536) (by omega) (by omega));have y:=iu (x.c.r 7+2);clear f;go_wp2;go_region
 go_wp2;go_ret;exact⟨D,l.out.same d.out D,(((PM.refl B T p x.s w).drew.moved a).set g.out.big 7 _).drew⟩
end
theorem BV(a b:Int)(w:u):Δ ω 375 #[J Y a,J Y b] w λe w'=>e=μ (J Y (bW .and Y a b))/\w'=w:=by
 go_enter func375,ntmps375;go_wp2;go_ret;exact⟨D,D⟩
theorem b_or(a b:Int)(w:u):Δ ω 376 #[J Y a,J Y b] w λe w'=>e=μ (J Y (bW .or Y a b))/\w'=w:=by
 go_enter func376,ntmps376;go_wp2;go_ret;exact⟨D,D⟩
theorem BW(a b:Int)(w:u):Δ ω 377 #[J Y a,J Y b] w λe w'=>e=μ (J Y (bW .xor Y a b))/\w'=w:=by
 go_enter func377,ntmps377;go_wp2;go_ret;exact⟨D,D⟩
theorem zyK(a b:Int)(c:Nat)(w:u)(hc:w.cell? ⟨c,0,G⟩=A (jZ 375)):Δ ω 382 #[J Y a,J Y b,aB (A ⟨c,0,G⟩)] w λe w'=>e=μ (Ψ #[J Y (bW .and Y a b),ν ξ,ν ξ])/\w'=w:=by
 unfold jZ at hc;go_enter func382,ntmps382;go_wp2_with (go_at_call 375;refine(BV _ _ _).mono ?_;rintro e w' ⟨rfl,rfl⟩)
 go_ret3
 exact⟨D,D⟩
theorem zAE(a b:Int)(c:Nat)(w:u)(hc:w.cell? ⟨c,0,G⟩=A (jZ 376)):Δ ω 382 #[J Y a,J Y b,aB (A ⟨c,0,G⟩)] w λe w'=>e=μ (Ψ #[J Y (bW .or Y a b),ν ξ,ν ξ])/\w'=w:=by
 unfold jZ at hc;go_enter func382,ntmps382;go_wp2_with (go_at_call 376;refine(b_or _ _ _).mono ?_;rintro e w' ⟨rfl,rfl⟩)
 go_ret3
 exact⟨D,D⟩
theorem zyL(a b:Int)(c:Nat)(w:u)(hc:w.cell? ⟨c,0,G⟩=A (jZ 377)):Δ ω 382 #[J Y a,J Y b,aB (A ⟨c,0,G⟩)] w λe w'=>e=μ (Ψ #[J Y (bW .xor Y a b),ν ξ,ν ξ])/\w'=w:=by
 unfold jZ at hc;go_enter func382,ntmps382;go_wp2_with (go_at_call 377;refine(BW _ _ _).mono ?_;rintro e w' ⟨rfl,rfl⟩)
 go_ret3
 exact⟨D,D⟩
theorem zyM(a b:Int)(w:u)(f:0<=a)(c:a<=65535)(hb:0<=b)(d:b<=65535):Δ ω 378 #[J Y a,J Y b] w λe w'=>e=μ (Ψ #[J Y (M.mulN a b),ν (M.mulC a b),ν ξ])/\w'=w:=by
 go_enter func378,ntmps378;go_wp2_with (go_at_call 379;refine(zyE _ _ _ f c hb d).mono ?_;rintro e w' ⟨rfl,rfl⟩)
 go_ret3
 exact⟨D,D⟩
theorem xa(w:u):(zeroValue 426).run ω w=.ok .nilFunc w:=by kernel_rfl
theorem zyN(a b:Int)(w:u)(g:0<=a)(c:a<=65535)(hb:0<=b)(d:b<=65535):Δ ω 356 #[J Q 7,J Y a,J Y b] w λe w'=>e=μ (Ψ #[J Y (M.addN a b),ν (M.addN a b == 0),ν (decide (32768<=M.addN a b)),ν (M.addC a b),ν (M.addV a b),J Q 0])/\Below w.heap.size w w':=by
 have f:=M.top_of (M.addN a b) (M.addN_bd a b).1 (M.addN_bd a b).2;rw[<- f];clear f;go_enter func356,ntmps356;go_wp2_with (first
  | (go_at_call 369;refine(wZ _).mono ?_;rintro e w1 ⟨m,c9,h,i,rfl,j,n,h10,h11,k⟩;have l:=wY rV underlying3 j 7 _ (xa w1);simp[table,jZ,lU] at l)
  | (go_at_call 372;refine(zsX _ _ _ g c hb d).mono ?_;rintro e w' ⟨rfl,rfl⟩))
 exact Ξ (v:=Ψ #[J Y (M.addN a b),ν (M.addN a b == 0),ν (bW .and Y (M.addN a b) 32768 != 0),ν (M.addC a b),ν (M.addV a b),J Q 0]) (by simp[results,results356,go_sem]) D ⟨D,k⟩
theorem zvX(a b:Int)(w:u)(g:0<=a)(c:a<=65535)(hb:0<=b)(d:b<=65535):Δ ω 356 #[J Q 15,J Y a,J Y b] w λe w'=>e=μ (Ψ #[J Y (M.addN a b),ν (M.addN a b == 0),ν (decide (32768<=M.addN a b)),ν (M.addC a b),ν (M.addV a b),J Q 0])/\Below w.heap.size w w':=by
 have f:=M.top_of (M.addN a b) (M.addN_bd a b).1 (M.addN_bd a b).2;rw[<- f];clear f;go_enter func356,ntmps356;go_wp2_with (first
  | (go_at_call 369;refine(wZ _).mono ?_;rintro e w1 ⟨m,c9,h,i,rfl,j,n,h10,h11,k⟩;have l:=wY rV underlying3 j 15 _ (xa w1);simp[table,jZ,lU] at l)
  | (go_at_call 372;refine(zsX _ _ _ g c hb d).mono ?_;rintro e w' ⟨rfl,rfl⟩))
 exact Ξ (v:=Ψ #[J Y (M.addN a b),ν (M.addN a b == 0),ν (bW .and Y (M.addN a b) 32768 != 0),ν (M.addC a b),ν (M.addV a b),J Q 0]) (by simp[results,results356,go_sem]) D ⟨D,k⟩
theorem zyO(a b:Int)(w:u)(g:0<=a)(c:a<=65535)(hb:0<=b)(d:b<=65535):Δ ω 356 #[J Q 8,J Y a,J Y b] w λe w'=>e=μ (Ψ #[J Y (M.subN a b),ν (M.subN a b == 0),ν (decide (32768<=M.subN a b)),ν (M.subC a b),ν (M.subV a b),J Q 0])/\Below w.heap.size w w':=by
 have f:=M.top_of (M.subN a b) (M.subN_bd a b).1 (M.subN_bd a b).2;rw[<- f];clear f;go_enter func356,ntmps356;go_wp2_with (first
  | (go_at_call 369;refine(wZ _).mono ?_;rintro e w1 ⟨m,c9,h,i,rfl,j,n,h10,h11,k⟩;have l:=wY rV underlying3 j 8 _ (xa w1);simp[table,jZ,lU] at l)
  | (go_at_call 373;refine(zsY _ _ _ g c hb d).mono ?_;rintro e w' ⟨rfl,rfl⟩))
 exact Ξ (v:=Ψ #[J Y (M.subN a b),ν (M.subN a b == 0),ν (bW .and Y (M.subN a b) 32768 != 0),ν (M.subC a b),ν (M.subV a b),J Q 0]) (by simp[results,results356,go_sem]) D ⟨D,k⟩
theorem zvY(a b:Int)(w:u)(g:0<=a)(c:a<=65535)(hb:0<=b)(d:b<=65535):Δ ω 356 #[J Q 14,J Y a,J Y b] w λe w'=>e=μ (Ψ #[J Y (M.subN a b),ν (M.subN a b == 0),ν (decide (32768<=M.subN a b)),ν (M.subC a b),ν (M.subV a b),J Q 0])/\Below w.heap.size w w':=by
 have f:=M.top_of (M.subN a b) (M.subN_bd a b).1 (M.subN_bd a b).2;rw[<- f];clear f;go_enter func356,ntmps356;go_wp2_with (first
  | (go_at_call 369;refine(wZ _).mono ?_;rintro e w1 ⟨m,c9,h,i,rfl,j,n,h10,h11,k⟩;have l:=wY rV underlying3 j 14 _ (xa w1);simp[table,jZ,lU] at l)
  | (go_at_call 373;refine(zsY _ _ _ g c hb d).mono ?_;rintro e w' ⟨rfl,rfl⟩))
 exact Ξ (v:=Ψ #[J Y (M.subN a b),ν (M.subN a b == 0),ν (bW .and Y (M.subN a b) 32768 != 0),ν (M.subC a b),ν (M.subV a b),J Q 0]) (by simp[results,results356,go_sem]) D ⟨D,k⟩
theorem zyP(a b:Int)(w:u)(f:0<=a)(c:a<=65535)(hb:0<=b)(d:b<=65535):Δ ω 356 #[J Q 9,J Y a,J Y b] w λe w'=>e=μ (Ψ #[J Y (bW .and Y a b),ν (bW .and Y a b == 0),ν (decide (32768<=bW .and Y a b)),ν ξ,ν ξ,J Q 0])/\Below w.heap.size w w':=by
 have g:=M.top_of (bW .and Y a b) (M.and_bd a b f c hb d).1 (M.and_bd a b f c hb d).2;rw[<- g];clear g;go_enter func356,ntmps356;go_wp2_with (first
  | (go_at_call 369;refine(wZ _).mono ?_;rintro e w1 ⟨n,c9,h,i,rfl,j,k,h10,h11,l⟩;have m:=wY rV underlying3 j 9 _ (xa w1);simp[table,jZ,lU] at m)
  | (go_at_call 382;refine(zyK _ _ _ _ k).mono ?_;rintro e w' ⟨rfl,rfl⟩))
 exact Ξ (v:=Ψ #[J Y (bW .and Y a b),ν (bW .and Y a b == 0),ν (bW .and Y (bW .and Y a b) 32768 != 0),ν ξ,ν ξ,J Q 0]) (by simp[results,results356,go_sem]) D ⟨D,l⟩
theorem zvZ(a b:Int)(w:u)(f:0<=a)(c:a<=65535)(hb:0<=b)(d:b<=65535):Δ ω 356 #[J Q 10,J Y a,J Y b] w λe w'=>e=μ (Ψ #[J Y (bW .or Y a b),ν (bW .or Y a b == 0),ν (decide (32768<=bW .or Y a b)),ν ξ,ν ξ,J Q 0])/\Below w.heap.size w w':=by
 have g:=M.top_of (bW .or Y a b) (M.or_bd a b f c hb d).1 (M.or_bd a b f c hb d).2;rw[<- g];clear g;go_enter func356,ntmps356;go_wp2_with (first
  | (go_at_call 369;refine(wZ _).mono ?_;rintro e w1 ⟨m,c9,h,i,rfl,j,n,h10,h11,k⟩;have l:=wY rV underlying3 j 10 _ (xa w1);simp[table,jZ,lU] at l)
  | (go_at_call 382;refine(zAE _ _ _ _ h10).mono ?_;rintro e w' ⟨rfl,rfl⟩))
 exact Ξ (v:=Ψ #[J Y (bW .or Y a b),ν (bW .or Y a b == 0),ν (bW .and Y (bW .or Y a b) 32768 != 0),ν ξ,ν ξ,J Q 0]) (by simp[results,results356,go_sem]) D ⟨D,k⟩
theorem zv0(a b:Int)(w:u)(f:0<=a)(c:a<=65535)(hb:0<=b)(d:b<=65535):Δ ω 356 #[J Q 11,J Y a,J Y b] w λe w'=>e=μ (Ψ #[J Y (bW .xor Y a b),ν (bW .xor Y a b == 0),ν (decide (32768<=bW .xor Y a b)),ν ξ,ν ξ,J Q 0])/\Below w.heap.size w w':=by
 have g:=M.top_of (bW .xor Y a b) (M.xor_bd a b f c hb d).1 (M.xor_bd a b f c hb d).2;rw[<- g];clear g;go_enter func356,ntmps356;go_wp2_with (first
  | (go_at_call 369;refine(wZ _).mono ?_;rintro e w1 ⟨m,c9,h,i,rfl,j,n,h10,h11,k⟩;have l:=wY rV underlying3 j 11 _ (xa w1);simp[table,jZ,lU] at l)
  | (go_at_call 382;refine(zyL _ _ _ _ h11).mono ?_;rintro e w' ⟨rfl,rfl⟩))
 exact Ξ (v:=Ψ #[J Y (bW .xor Y a b),ν (bW .xor Y a b == 0),ν (bW .and Y (bW .xor Y a b) 32768 != 0),ν ξ,ν ξ,J Q 0]) (by simp[results,results356,go_sem]) D ⟨D,k⟩
theorem zv1(a b:Int)(w:u)(g:0<=a)(c:a<=65535)(hb:0<=b)(d:b<=65535):Δ ω 356 #[J Q 28,J Y a,J Y b] w λe w'=>e=μ (Ψ #[J Y (M.mulN a b),ν (M.mulN a b == 0),ν (decide (32768<=M.mulN a b)),ν (M.mulC a b),ν ξ,J Q 0])/\Below w.heap.size w w':=by
 have f:=M.top_of (M.mulN a b) (M.mulN_bd a b).1 (M.mulN_bd a b).2;rw[<- f];clear f;go_enter func356,ntmps356;go_wp2_with (first
  | (go_at_call 369;refine(wZ _).mono ?_;rintro e w1 ⟨m,c9,h,i,rfl,j,n,h10,h11,k⟩;have l:=wY rV underlying3 j 28 _ (xa w1);simp[table,jZ,lU] at l)
  | (go_at_call 378;refine(zyM _ _ _ g c hb d).mono ?_;rintro e w' ⟨rfl,rfl⟩))
 exact Ξ (v:=Ψ #[J Y (M.mulN a b),ν (M.mulN a b == 0),ν (bW .and Y (M.mulN a b) 32768 != 0),ν (M.mulC a b),ν ξ,J Q 0]) (by simp[results,results356,go_sem]) D ⟨D,k⟩
def iR(b:Nat->Bool):Nat->Int
 | 0=>0
 | k+1=>iR b k+(if b k then 2 ^ k else 0)
theorem zlr(b:Nat->Bool):∀ k,0<=iR b k/\iR b k<2 ^ k
 | 0=>by simp[iR]
 | k+1=>by
  have:=zlr b k;have e:(2:Int) ^ (k+1)=2*2 ^ k:=by rw[iY];omega
  simp only[iR];rw[e];split <;> omega
theorem or_bit:∀ k:Nat,k<5->∀ s:Nat,s<32->s<2 ^ k->bW .or Y (s:Int) ((2 ^ k:Nat):Int)=((s+2 ^ k:Nat):Int):=by decide +kernel
theorem Au(b:Nat->Bool)(k:Nat)(c:k<5)(x:Int)(d:x=((2 ^ k:Nat):Int)):bW .or Y (iR b k) x=iR b k+2 ^ k:=by
 obtain⟨e,h1⟩:=zlr b k;obtain⟨s,a⟩:=aA e;have h2:s<2 ^ k:=by
  have:((s:Nat):Int)<((2 ^ k:Nat):Int):=by rw[<- a];simpa using h1
  omega
 have h3:2 ^ k<=16:=by
  have:k=0 \/ k=1 \/ k=2 \/ k=3 \/ k=4:=by omega
  rcases this with rfl|rfl|rfl|rfl|rfl <;> decide
 rw[a,d,or_bit k c s (by omega) h2];simp
def mt(c:C.Cpu):Nat->Bool
 | 0=>c.Z|1=>c.N|2=>c.C|3=>c.V|_=>c.May
theorem zyJ(c:C.Cpu):iR (mt c) 5=C.sign c:=by
 simp only[iR,mt,C.sign];simp
theorem zAz(a x1 x2 x3 b:π)(w:u):(aK 400 (ac #[a,x1,x2,x3,b]) (J Q 0)).run ω w=.ok a w:=by kernel_rfl
theorem zAA(a x1 x2 x3 b:π)(w:u):(aK 400 (ac #[a,x1,x2,x3,b]) (J Q 1)).run ω w=.ok x1 w:=by kernel_rfl
theorem zAB(a x1 x2 x3 b:π)(w:u):(aK 400 (ac #[a,x1,x2,x3,b]) (J Q 2)).run ω w=.ok x2 w:=by kernel_rfl
theorem zAC(a x1 x2 x3 b:π)(w:u):(aK 400 (ac #[a,x1,x2,x3,b]) (J Q 3)).run ω w=.ok x3 w:=by kernel_rfl
theorem zAD(b x1 x2 x3 a:π)(w:u):(aK 400 (ac #[b,x1,x2,x3,a]) (J Q 4)).run ω w=.ok a w:=by kernel_rfl
theorem Av{b:Nat->Bool}{k:Nat}(h:b k=Γ):iR b (k+1)=iR b k+2 ^ k:=by simp[iR,h]
theorem Aw{b:Nat->Bool}{k:Nat}(h:b k=ξ):iR b (k+1)=iR b k:=by simp[iR,h]
theorem nW{k:mx}{a b:Int}(h:a=b):J k a=.int k b:=by rw[h]
theorem zs0(c:C.Cpu)(w:u):Δ ω 286 #[jY c] w λe w'=>e=μ (J Y (iR (mt c) 5))/\Below w.heap.size w w':=by
 go_enter func286,ntmps286;go_wp2
 go_loop [3,17] (λs i=>∃ k:Nat,k<=5/\i=J Q k/\s=J Y (iR (mt c) k)) (λ_ i=>5-(aU i).toNat)
 case atStart=>exact⟨0,by omega,D,D⟩
 case round =>
  obtain⟨k,g,rfl,rfl⟩:=hrel;have hc:k=0 \/ k=1 \/ k=2 \/ k=3 \/ k=4 \/ k=5:=by omega
  rcases hc with rfl|rfl|rfl|rfl|rfl|rfl
  ·have i0:=zAz
   by_cases a:c.Z=Γ
   ·have d:=hid (Av (b:=mt c) (k:=0) a)
    go_wp2
    go_round
    case rel=>exact⟨_,_,_,_,⟨1,by omega,by go_num,nW ((Au (mt c) 0 (by omega) _ (by decide)).trans d.out.symm)⟩,D,D,D,D⟩
    case measure=>simp[aU]
   ·have f:c.Z=ξ:=by simpa using a
    have d:=hid (Aw (b:=mt c) (k:=0) f);clear a;go_wp2
    go_round
    case rel=>exact⟨_,_,_,_,⟨1,by omega,by go_num,nW d.out.symm⟩,D,D,D,D⟩
    case measure=>simp[aU]
  ·have i0:=zAA
   by_cases a:c.N=Γ
   ·have d:=hid (Av (b:=mt c) (k:=1) a)
    go_wp2
    go_round
    case rel=>exact⟨_,_,_,_,⟨2,by omega,by go_num,nW ((Au (mt c) 1 (by omega) _ (by decide)).trans d.out.symm)⟩,D,D,D,D⟩
    case measure=>simp[aU]
   ·have f:c.N=ξ:=by simpa using a
    have d:=hid (Aw (b:=mt c) (k:=1) f);clear a;go_wp2
    go_round
    case rel=>exact⟨_,_,_,_,⟨2,by omega,by go_num,nW d.out.symm⟩,D,D,D,D⟩
    case measure=>simp[aU]
  ·have i0:=zAB
   by_cases a:c.C=Γ
   ·have d:=hid (Av (b:=mt c) (k:=2) a)
    go_wp2
    go_round
    case rel=>exact⟨_,_,_,_,⟨3,by omega,by go_num,nW ((Au (mt c) 2 (by omega) _ (by decide)).trans d.out.symm)⟩,D,D,D,D⟩
    case measure=>simp[aU]
   ·have f:c.C=ξ:=by simpa using a
    have d:=hid (Aw (b:=mt c) (k:=2) f);clear a;go_wp2
    go_round
    case rel=>exact⟨_,_,_,_,⟨3,by omega,by go_num,nW d.out.symm⟩,D,D,D,D⟩
    case measure=>simp[aU]
  ·have i0:=zAC
   by_cases a:c.V=Γ
   ·have d:=hid (Av (b:=mt c) (k:=3) a)
    go_wp2
    go_round
    case rel=>exact⟨_,_,_,_,⟨4,by omega,by go_num,nW ((Au (mt c) 3 (by omega) _ (by decide)).trans d.out.symm)⟩,D,D,D,D⟩
    case measure=>simp[aU]
   ·have f:c.V=ξ:=by simpa using a
    have d:=hid (Aw (b:=mt c) (k:=3) f);clear a;go_wp2
    go_round
    case rel=>exact⟨_,_,_,_,⟨4,by omega,by go_num,nW d.out.symm⟩,D,D,D,D⟩
    case measure=>simp[aU]
  ·have i0:=zAD
   by_cases a:c.May=Γ
   ·have d:=hid (Av (b:=mt c) (k:=4) a)
    go_wp2
    go_round
    case rel=>exact⟨_,_,_,_,⟨5,by omega,by go_num,nW ((Au (mt c) 4 (by omega) _ (by decide)).trans d.out.symm)⟩,D,D,D,D⟩
    case measure=>simp[aU]
   ·have f:c.May=ξ:=by simpa using a
    have d:=hid (Aw (b:=mt c) (k:=4) f);clear a;go_wp2
    go_round
    case rel=>exact⟨_,_,_,_,⟨5,by omega,by go_num,nW d.out.symm⟩,D,D,D,D⟩
    case measure=>simp[aU]
  ·go_wp2
   go_ret;exact⟨D,stA (aR _) _⟩
theorem zvW(c:C.Cpu)(w:u):Δ ω 286 #[jY c] w λe w'=>e=μ (J Y (C.sign c))/\Below w.heap.size w w':=by
 rw[<- zyJ];exact zs0 c w
section
variable {σ : Type} {m : C.Mem σ} {B nr nw : Nat} {cr cw : Array π × Array π} {I : u -> σ -> Prop} {T : σ -> Nat -> Prop}
theorem zls(R:RS m B nr nw cr cw I T)(a:Int)(U:0<=a)(F:a<=65535)(w:u)(p:Nat)(x:C.St σ)(i:4<=m.fuel x.s)(j:PI B nr nw cr cw I T w p x):Δ ω 252 #[aB (A ⟨p,0,G⟩),J Y a] w λe w'=>e=μ (Ψ #[])/\PI B nr nw cr cw I T w' p (C.leave m x a)/\PM B T p x.s (C.leave m x a).s w w':=by
 obtain⟨c8,_,_,_,_,_,_,_,_,_⟩:=j.cells;have V:=j.lt;have z:=hid j;have b:=hid R;have P:=hid j.ok;have H:=hid i;have k:Hid (2<=m.fuel (C.push m x x.c.PC).s):=hid (by have:=R.fpush x x.c.PC;omega);clear j R i;go_enter func252,ntmps252;go_wp2_with (first
  | (go_at_call 285;first
      | (refine(zfO b.out _ (C.sign_bd _).1 (iA (C.sign_bd _).2 (by omega)) _ p E k.out (l.out.kept b.out o)).mono ?_;rintro e w3 ⟨rfl,d,q⟩;generalize r:C.push m E (C.sign E.c)=t at d q;obtain⟨_,_,_,_,_,_,_,W,X,_⟩:=d.cells;have Z:=d.frozen 13;have ef2:=d.frozen 14;have el:=d.lt;have g:=hid d;have L:=hid r;clear d r)
      | (refine(zfO b.out _ P.out.2.2.1 P.out.2.2.2 _ p x (ax (by decide) H.out) z.out).mono ?_;rintro e w1 ⟨rfl,f,v⟩;generalize y:C.push m x x.c.PC=E at f v k;obtain⟨d8,d9,d10,d11,d12,d13,d14,d15,d16,d17⟩:=f.cells;obtain⟨d0,d1,d2,d3,d4,d5,d6,d7⟩:=f.regs;have dl:=f.lt;have l:=hid f;have M:=hid y;clear f y))
  | (go_at_call 286;refine(zvW E.c _).mono ?_;rintro e w2 ⟨rfl,o⟩)
  | (go_at_call 131;refine(zdA b.out a U F _ t.s ?_).mono ?_;(exact((g.out.putMay b.out ξ).putWaits b.out ξ).inv);rintro e w4 ⟨rfl,N,h⟩;obtain⟨k4,f4,z4⟩:=((g.out.putMay b.out ξ).putWaits b.out ξ).after h D))
 go_end0;have h1:=M.out;have h2:=L.out;have hE:C.leave m x a=⟨{ t.c with May:=ξ,Waits:=ξ,PC:=(m.rdw t.s a).1 },(m.rdw t.s a).2,t.n⟩:=by subst h1;subst h2;rfl
 rw[hE];exact⟨D,(((g.out.putMay b.out ξ).putWaits b.out ξ).movedS b.out N h D).putPC b.out _ (b.out.word _ _).1 (b.out.word _ _).2,(((((v.kept (l.out.hB b.out) o).trans q).set z.out.big 13 _).set z.out.big 14 _).moved h).set z.out.big 8 _⟩
theorem zdB(w:u)(p:Nat)(r:Nat)(n v:Int)(b:r<8)(hc:w.cell? ⟨p,r,G⟩=A (J Y v))(a:p<w.heap.size):Δ ω 293 #[aB (A ⟨p,0,G⟩),J Q r,J Q n] w λe w'=>e=μ (J Y ((v+n)%65536))/\w'=w:=by
 have c:(0:Int)<=r:=by omega
 have d:(r:Int)<8:=by omega
 go_enter func293,ntmps293;go_wp2;go_ret;exact⟨vu (by rw[iu,iu];omega),D⟩
theorem zjz(R:RS m B nr nw cr cw I T)(w:u)(p:Nat)(x:C.St σ)(b:PI B nr nw cr cw I T w p x):Δ ω 287 #[aB (A ⟨p,0,G⟩)] w λe w'=>e=μ (J Y (m.rdw x.s x.c.PC).1)/\PI B nr nw cr cw I T w' p ⟨{ x.c with PC:=(x.c.PC+2)%65536 },(m.rdw x.s x.c.PC).2,x.n⟩/\PM B T p x.s (m.rdw x.s x.c.PC).2 w w':=by
 obtain⟨r,_,_,_,_,_,_,l,o,_⟩:=b.cells;have q:=b.lt;have g:=hid b;have d:=hid R;have h:=hid b.ok;clear b R;go_enter func287,ntmps287;go_wp2;go_region_held3 (λw'=>w'.cell? ⟨p,8,G⟩=A (J Y x.c.PC)/\w'.cell? ⟨p,15,G⟩=A (fw nr cr)/\w'.cell? ⟨p,16,G⟩=A (fw nw cw))
  ((go_keep;done))
  ((go_at_call 131;refine(zdA d.out x.c.PC h.out.2.2.1 h.out.2.2.2 _ x.s ?_).mono ?_;(exact g.out.invS d.out D);rintro e w1 ⟨rfl,i,a⟩;obtain⟨k1,f1,t⟩:=g.out.after a D))
 have f:=g.out.movedS d.out i a D;have j:=h.out.2.2;have k:=hid (f.putPC d.out ((x.c.PC+2)%65536) (by omega) (by omega));have v:=iu (x.c.PC+2);clear f j;go_wp2;go_ret;exact⟨D,k.out.same d.out D,((PM.refl B T p x.s w).drew.moved a).set g.out.big 8 _⟩
theorem Ax(n:Int)(k:Nat)(a:0<=n)(h1:n<=65535)(b:k<16)(y:Int)(c:y=((2 ^ k:Nat):Int)):(bW .and Y n y != 0)=decide (n/((2 ^ k:Nat):Int)%2=1):=by
 obtain⟨N,rfl⟩:=aA a;have hp:2 ^ k<65536:=Nat.pow_lt_pow_right (by omega) b;rw[c,iT N (2 ^ k) (by omega) hp,M.and_pow,cY];have h2:0<2 ^ k:=Nat.pos_of_ne_zero (by simp);have e:((N:Int)/((2 ^ k:Nat):Int)%2=1) ↔ (N/2 ^ k%2=1):=by
  rw[<- Int.natCast_ediv];omega
 by_cases h:N/2 ^ k%2=1
 ·rw[aO (e.2 h),aO h]
  simp only[fO,mB,ne_eq];omega
 ·rw[aG (λx=>h (e.1 x)),aG h]
  simp
theorem zlt(R:RS m B nr nw cr cw I T)(w:u)(p:Nat)(x:C.St σ)(o:PI B nr nw cr cw I T w p x):Δ ω 319 #[aB (A ⟨p,0,G⟩)] w λe w'=>e=μ (Ψ #[])/\PI B nr nw cr cw I T w' p (C.comeBack m x)/\PM B T p x.s (C.comeBack m x).s w w':=by
 have f:=hid o;have b:=hid R;have d:=hid (R.word x.s (x.c.r 7));clear o R;generalize h:C.comeBack m x=z;have q:=hid h;clear h;go_enter func319,ntmps319;go_wp2_with (first
  | (go_at_call 313;first
      | (refine(zjy b.out _ p _ i.out).mono ?_;rintro e w2 ⟨rfl,a,j⟩;have F:=a.frozen;have H:=a.lt;have k:=a.cells;obtain⟨L,M,t,v,y,E,_,_,_,_⟩:=a.cells;have l:=hid a;clear a k)
      | (refine(zjy b.out _ p x f.out).mono ?_;rintro e w1 ⟨rfl,g,n⟩;have i:=hid g;clear g)))
 go_end0;have h:=q.out;subst h;have b0:=Ax (C.popV m x) 0 d.out.1 d.out.2 (by omega) 1 D;have b1:=Ax (C.popV m x) 1 d.out.1 d.out.2 (by omega) 2 D;have b2:=Ax (C.popV m x) 2 d.out.1 d.out.2 (by omega) 4 D;have b3:=Ax (C.popV m x) 3 d.out.1 d.out.2 (by omega) 8 D;have b4:=Ax (C.popV m x) 4 d.out.1 d.out.2 (by omega) 16 D;rw[show ((2 ^ 0:Nat):Int)=1 from D,Int.ediv_one] at b0;rw[show ((2 ^ 1:Nat):Int)=2 from D] at b1;rw[show ((2 ^ 2:Nat):Int)=4 from D] at b2;rw[show ((2 ^ 3:Nat):Int)=8 from D] at b3;rw[show ((2 ^ 4:Nat):Int)=16 from D] at b4;rw[b0,b1,b2,b3,b4];exact⟨D,(((((l.out.putPC b.out _ (b.out.word _ _).1 (b.out.word _ _).2).putZ b.out _).putN b.out _).putC b.out _).putV b.out _).putMay b.out _,
  ((((((n.trans j).set f.out.big 8 _).set f.out.big 9 _).set f.out.big 10 _).set f.out.big 11 _).set f.out.big 12 _).set f.out.big 13 _⟩
end
structure Vc where
 p:Int
 c:Int
 l:Int
 h:Bool
 n:Int
def nz(n:Int):Int:=if n%2=1 then bW .xor Y (n/2) 46080 else n/2
def wU(h:Bool)(n:Int):Bool:=if n=0 then !h else decide (n%2=1)
def tU(n:Int):Int:=if n=0 then 0 else nz n
def jX(n:Int):Nat->Int
 | 0=>n
 | k+1=>tU (jX n k)
def lT(h:Bool)(n:Int):Nat->Bool
 | 0=>h
 | k+1=>wU (lT h n k) (jX n k)
def Vc.tick(v:Vc):Vc:=if v.c=0 then ⟨v.p,v.p,v.l,wU v.h v.n,tU v.n⟩ else ⟨v.p,v.c-1,v.l,v.h,v.n⟩
def Vc.ticks(v:Vc):Nat->Vc
 | 0=>v
 | k+1=>(v.ticks k).tick
def qC(p c n:Int):Int:=if n<c+1 then c-n else p-(n-(c+1))%(p+1)
def ltK(p c n:Int):Nat:=if n<c+1 then 0 else (1+(n-(c+1))/(p+1)).toNat
def Vc.later(v:Vc)(n:Int):Vc:=⟨v.p,qC v.p v.c n,v.l,lT v.h v.n (ltK v.p v.c n),jX v.n (ltK v.p v.c n)⟩
structure Vc.ok (v : Vc) : Prop where
 p:0<=v.p/\v.p<=65535
 c:0<=v.c/\v.c<=65535
 l:0<=v.l/\v.l<=255
 n:0<=v.n/\v.n<=65535
theorem zvS(m k:Int)(b:0<=m)(a:0<k):(m+1)%k=(if m%k=k-1 then 0 else m%k+1)/\(m+1)/k=(if m%k=k-1 then m/k+1 else m/k):=by
 have h1:=dL m (show k≠0 by omega);have h2:=dE m a;have c:=iM m k;have e:m+1=(m%k+1)+k*(m/k):=by omega
 split
 ·rename_i h
  have e2:m+1=0+k*(m/k+1):=by rw[Int.mul_add];omega
  rw[e2,iX,na _ _ (by omega)];simp
 ·rw[e,iX,na _ _ (by omega),oP (by omega) (by omega),rn (by omega) (by omega)]
  simp
theorem BM(n:Int)(h:0<=n/\n<=65535):0<=nz n/\nz n<=65535:=by
 unfold nz;split
 ·exact M.xor_bd _ _ (by omega) (by omega) (by omega) (by omega)
 ·omega
theorem BN(n:Int)(h:0<=n/\n<=65535)(c:n≠0):nz n≠0:=by
 unfold nz;split
 ·obtain⟨X,a⟩:=aA (show 0<=n/2 by omega)
  rw[a,show (46080:Int)=((46080:Nat):Int) from D,nB _ _ (by omega) (by omega)];have hb:(X ^^^ 46080).testBit 15=Γ:=by
   rw[kF,M.top X (by omega),M.top 46080 (by omega),aG (show ¬ 32768<=X by omega)];rfl
  intro e;have b:X ^^^ 46080=0:=by omega
  rw[b] at hb;simp at hb
 ·omega
theorem zxU(n:Int)(h:0<=n/\n<=65535):0<=tU n/\tU n<=65535:=by
 unfold tU;split
 ·omega
 ·exact BM n h
theorem zsM(n:Int)(h:0<=n/\n<=65535)(k:Nat):0<=jX n k/\jX n k<=65535:=by
 induction k with
 | zero=>exact h
 | succ k a=>exact zxU _ a
theorem zll(k:Nat):jX 0 k=0:=by
 induction k with
 | zero=>rfl
 | succ k a=>rw[jX,a];rfl
theorem zyz(n:Int)(h:0<=n/\n<=65535)(b:n≠0)(k:Nat):jX n k≠0:=by
 induction k with
 | zero=>exact b
 | succ k a =>
  rw[jX];unfold tU;rw[ae a];exact BN _ (zsM n h k) a
theorem zsN(h:Bool)(k:Nat):lT h 0 k=(h != (k%2 == 1)):=by
 induction k with
 | zero=>simp[lT]
 | succ k a =>
  rw[lT,zll,a];unfold wU;rw[am D];by_cases h2:k%2=1
  ·have h3:(k+1)%2=0:=by omega
   rw[h2,h3];cases h <;> rfl
  ·have h3:(k+1)%2=1:=by omega
   have h4:k%2=0:=by omega
   rw[h4,h3];cases h <;> rfl
theorem Vc.tick_ok{v:Vc}(h:v.ok):v.tick.ok:=by
 unfold Vc.tick;split
 ·exact⟨h.p,h.p,h.l,zxU _ h.n⟩
 ·exact⟨h.p,⟨by have:=h.c;simp only;omega,by have:=h.c;simp only;omega⟩,h.l,h.n⟩
theorem Vc.later_tick(v:Vc)(h:v.ok)(n:Int)(d:0<=n):(v.later n).tick=v.later (n+1):=by
 obtain⟨p,c,l,hi,f⟩:=v;obtain⟨hp,hc,b,a⟩:=h;simp only at hp hc b a;unfold Vc.tick Vc.later;simp only;by_cases h1:n+1<c+1
 ·have h2:n<c+1:=by omega
  have e1:qC p c n=c-n:=by unfold qC;rw[am h2]
  have e2:qC p c (n+1)=c-n-1:=by unfold qC;rw[am h1];omega
  have e3:ltK p c n=0:=by unfold ltK;rw[am h2]
  have e4:ltK p c (n+1)=0:=by unfold ltK;rw[am h1]
  rw[e1,e2,e3,e4,ae (by omega)]
 ·by_cases h2:n<c+1
  ·have e1:qC p c n=0:=by unfold qC;rw[am h2];omega
   have e5:n+1-(c+1)=0:=by omega
   have e2:qC p c (n+1)=p:=by unfold qC;rw[ae h1,e5];simp
   have e3:ltK p c n=0:=by unfold ltK;rw[am h2]
   have e4:ltK p c (n+1)=1:=by unfold ltK;rw[ae h1,e5];simp
   rw[e1,e2,e3,e4,am D];rfl
  ·have e:n+1-(c+1)=(n-(c+1))+1:=by omega
   obtain⟨s1,s2⟩:=zvS (n-(c+1)) (p+1) (by omega) (by omega);have b1:=dL (n-(c+1)) (show p+1≠0 by omega);have b2:=dE (n-(c+1)) (show 0<p+1 by omega);have b3:0<=(n-(c+1))/(p+1):=jt (by omega) (by omega);have e1:qC p c n=p-(n-(c+1))%(p+1):=by unfold qC;rw[ae h2]
   have e3:ltK p c n=(1+(n-(c+1))/(p+1)).toNat:=by unfold ltK;rw[ae h2]
   have e2:qC p c (n+1)=p-(n-(c+1)+1)%(p+1):=by unfold qC;rw[ae h1,e]
   have e4:ltK p c (n+1)=(1+(n-(c+1)+1)/(p+1)).toNat:=by unfold ltK;rw[ae h1,e]
   by_cases g:(n-(c+1))%(p+1)=p
   ·rw[s1,am (by omega)] at e2
    rw[s2,am (by omega)] at e4;have e5:ltK p c (n+1)=ltK p c n+1:=by rw[e3,e4];omega
    rw[e2,e5,e1,am (by omega)];simp[lT,jX]
   ·rw[s1,ae (by omega)] at e2
    rw[s2,ae (by omega)] at e4;have e5:ltK p c (n+1)=ltK p c n:=by rw[e3,e4]
    rw[e2,e5,e1,ae (by omega)];simp;omega
theorem Vc.later_zero(v:Vc)(h:v.ok):v.later 0=v:=by
 have hc:=h.c;have e1:qC v.p v.c 0=v.c:=by unfold qC;rw[am (by omega)];omega
 have e2:ltK v.p v.c 0=0:=by unfold ltK;rw[am (by omega)]
 unfold Vc.later;rw[e1,e2];rfl
theorem Vc.later_ticks(v:Vc)(h:v.ok)(n:Nat):v.later n=v.ticks n:=by
 induction n with
 | zero=>exact v.later_zero h
 | succ n a=>rw[Vc.ticks,<- a,Vc.later_tick v h n (by omega)];simp
/-! ### sounds -/
structure Sd where
 a:Vc
 b:Vc
 c:Vc
 w:Int
structure Sd.ok (s : Sd) : Prop where
 a:s.a.ok
 b:s.b.ok
 c:s.c.ok
structure Sd.fit (s : Sd) : Prop extends s.ok where
 w:0<=s.w/\s.w<=15
def Sd.tick(s:Sd):Sd:=⟨s.a.tick,s.b.tick,s.c.tick,if s.w=0 then 15 else s.w-1⟩
def Sd.ticks(s:Sd):Nat->Sd
 | 0=>s
 | k+1=>(s.ticks k).tick
def ld(v:Vc):Int:=if v.h then v.l%16 else 0
def pK(s:Sd):Int:=ld s.a+ld s.b+ld s.c
def sm(s:Sd):UInt8:=UInt8.ofNat (pK s).toNat
def one(s:Sd):List UInt8:=if s.w=0 then [sm s] else []
def lB(s:Sd):Nat->List UInt8
 | 0=>[]
 | k+1=>lB s k++one (s.ticks k)
theorem oE(v:Vc):0<=ld v/\ld v<=15:=by unfold ld;split <;> omega
theorem zxV(s:Sd):0<=pK s/\pK s<=45:=by
 have:=oE s.a;have:=oE s.b;have:=oE s.c;unfold pK;omega
theorem zxW(s:Sd):((sm s).toNat:Int)=pK s:=by
 have:=zxV s;unfold sm;rw[oy];omega
theorem Sd.tick_fit{s:Sd}(h:s.fit):s.tick.fit:=by
 refine⟨⟨Vc.tick_ok h.a,Vc.tick_ok h.b,Vc.tick_ok h.c⟩,?_⟩;have:=h.w;unfold Sd.tick;simp only;split <;> omega
theorem Sd.ticks_fit{s:Sd}(h:s.fit)(k:Nat):(s.ticks k).fit:=by
 induction k with
 | zero=>exact h
 | succ k a=>exact Sd.tick_fit a
theorem Sd.ticks_add(s:Sd)(a b:Nat):(s.ticks a).ticks b=s.ticks (a+b):=by
 induction b with
 | zero=>rfl
 | succ b c=>rw[Sd.ticks,c];rfl
theorem Ap(s:Sd)(a b:Nat):lB s (a+b)=lB s a++lB (s.ticks a) b:=by
 induction b with
 | zero=>simp[lB]
 | succ b c =>
  show lB s (a+b)++one (s.ticks (a+b))=_;rw[c,<- Sd.ticks_add,bK];rfl
theorem zjt(s:Sd)(k:Nat):(lB s k).length<=k:=by
 induction k with
 | zero=>simp[lB]
 | succ k a =>
  simp only[lB,az];have:(one (s.ticks k)).length<=1:=by unfold one;split <;> simp
  omega
theorem Sd.ticks_parts(s:Sd)(k:Nat):(s.ticks k).a=s.a.ticks k/\(s.ticks k).b=s.b.ticks k/\(s.ticks k).c=s.c.ticks k:=by
 induction k with
 | zero=>exact⟨D,D,D⟩
 | succ k d=>exact⟨by show (s.ticks k).a.tick=_;rw[d.1];rfl,by show (s.ticks k).b.tick=_;rw[d.2.1];rfl,by show (s.ticks k).c.tick=_;rw[d.2.2];rfl⟩
def wt(s:Sd):Int:=if s.w=0 then 16 else s.w
theorem Sd.near{s:Sd}(h:s.fit)(m:Nat)(h1:1<=m)(d:(m:Int)<=wt s):(s.ticks m).w=wt s-m/\lB s m=one s:=by
 have e:=h.w;induction m with
 | zero=>omega
 | succ m a =>
  by_cases b:m=0
  ·subst b
   refine⟨?_,by simp[lB,Sd.ticks]⟩;unfold wt;simp only[Sd.ticks,Sd.tick];by_cases c:s.w=0 <;> simp[c]
  ·obtain⟨e1,e2⟩:=a (by omega) (by omega)
   have e3:(s.ticks m).w≠0:=by rw[e1];omega
   refine⟨?_,?_⟩
   ·simp only[Sd.ticks,Sd.tick]
    rw[ae e3,e1];omega
   ·rw[lB,e2];unfold one;rw[ae e3];simp
def Sd.go(s:Sd)(m:Int):Sd:=⟨s.a.later m,s.b.later m,s.c.later m,wt s-m⟩
theorem Sd.go_ticks{s:Sd}(h:s.fit)(m:Nat)(h1:1<=m)(d:(m:Int)<=wt s):s.go m=s.ticks m:=by
 obtain⟨e1,e2,e3⟩:=Sd.ticks_parts s m;unfold Sd.go;rw[Vc.later_ticks _ h.a,Vc.later_ticks _ h.b,Vc.later_ticks _ h.c,<- (Sd.near h m h1 d).1,<- e1,<- e2,<- e3]
theorem BO{s:Sd}(h:s.fit):1<=wt s/\wt s<=16:=by have:=h.w;unfold wt;split <;> omega
structure Bx (W : u) (b : Nat) (L : List π) : Prop where
 z:b<W.heap.size
 c:W.rangeAt b 0 L
 f:∀ o,W.frozen? ⟨b,o,G⟩=ξ
section
variable {W w1 : u} {b : Nat} {L : List π}
theorem Bx.at(h:Bx W b L)(i:Nat)(v:π)(e:L[i]?=A v):W.cell? ⟨b,i,G⟩=A v:=by have:=h.c i v e;rwa [aX] at this
theorem Bx.kept(h:Bx W b L)(hb:Below W.heap.size W w1):Bx w1 b L :=
 ⟨Θ h.z hb.size,λj v a=>(hb.cell (p:=⟨b,0+j,G⟩) h.z).trans (h.c j v a),λo=>(hb.frozen (p:=⟨b,o,G⟩) h.z).trans (h.f o)⟩
theorem Bx.under{n:Nat}(h:Bx W b L)(hb:Below n W w1)(a:b<n):Bx w1 b L :=
 ⟨Θ h.z hb.size,λj v d=>(hb.cell (p:=⟨b,0+j,G⟩) a).trans (h.c j v d),λo=>(hb.frozen (p:=⟨b,o,G⟩) a).trans (h.f o)⟩
theorem Bx.over(h:Bx W b L)(o:Obj):Bx (W.alloc o) b L:=h.kept (stA (aR W) o)
theorem Bx.drew(h:Bx W b L):Bx W.drew b L:=⟨h.z,h.c,h.f⟩
theorem Bx.new(W:u)(L:List π)(t:aJ){b:Nat}(hb:b=W.heap.size):Bx (W.alloc (χ L.toArray t)) b L:=by
 subst hb;exact⟨by simp,λj v a=>(Pl.new _ _ _ _ D).trans (by rw[aX];simpa using a),λo=>Lib.frozen_of_heap (aM W _) o⟩
theorem Bx.far(h:Bx W b L){b' o':Nat}(a:b'≠b)(v:π):Bx (W.setCell ⟨b',o',G⟩ v) b L :=
 ⟨by simpa using h.z,λj x d=>(World.cell?_setCell_far W _ _ v a).trans (h.c j x d),λo=>by simpa using h.f o⟩
theorem Bx.set(h:Bx W b L)(i:Nat)(v:π)(hi:i<L.length):Bx (W.setCell ⟨b,i,G⟩ v) b (L.set i v):=by
 refine⟨by simpa using h.z,λj x a=>?_,λo=>by simpa using h.f o⟩;rw[aX];by_cases e:i=j
 ·subst e
  rw[gq hi] at a;have c:(W.cell? ⟨b,i,G⟩).isSome:=by rw[h.at i _ (aq hi)];rfl
  rw[<- a];exact jd _ _ _ c
 ·rw[iW e] at a
  exact(ap _ _ _ _ (by intro x;exact e (congrArg Addr.off x))).trans (h.at j x a)
def kr(L:List π)(o:Nat):List π->List π
 | []=>L
 | v::vs=>kr (L.set o v) (o+1) vs
theorem Bx.puts(h:Bx W b L)(o:Nat)(vs:List π)(a:o+vs.length<=L.length):Bx (W.setCells b o vs) b (kr L o vs):=by
 induction vs generalizing W L o with
 | nil=>exact h
 | cons v vs c =>
  simp only[cy] at a;exact c (h.set o v (by omega)) (o+1) (by simp;omega)
theorem Bx.fars(h:Bx W b L){b':Nat}(a:b'≠b)(o:Nat)(vs:List π):Bx (W.setCells b' o vs) b L:=by
 induction vs generalizing W o with
 | nil=>exact h
 | cons v vs c=>exact c (h.far a v) (o+1)
theorem Bx.mid(h:Bx W b L)(o n:Nat):W.rangeAt b o ((L.drop o).take n):=λj v c=>by
 have a:(L.drop o)[j]?=A v:=by
  rw[gF] at c;split at c
  ·exact c
  ·cases c
 rw[jC] at a;exact h.at (o+j) v a
theorem Bx.there(h:Bx W b L)(o n:Nat)(a:o+n<=L.length):W.there b o n:=λj c=>by
 refine⟨?_,h.f _⟩;rw[h.at (o+j) _ (aq (by omega))];rfl
end
theorem Bl.set{w W:u}{b o:Nat}(h:Below w.heap.size w W)(hb:w.heap.size<=b)(v:π):Below w.heap.size w (W.setCell ⟨b,o,G⟩ v):=h.setCell hb v
theorem Bl.puts{w W:u}{b o:Nat}(h:Below w.heap.size w W)(hb:w.heap.size<=b)(vs:List π):Below w.heap.size w (W.setCells b o vs):=Pl.below hb vs o W h
theorem Pl.cutL{P:bX}{ops:Array cG}{rest:List cG}{η:ii->dH->u->Prop}{a:dH}{w:u}(K:u->Prop)(h:K w)(k:∀ w',K w'->dg P ops η rest a w'):dg P ops η rest a w:=k w h
theorem Pl.cutE{F:ii->dH->u->Prop}{e:ii}{a:dH}{w:u}(K:u->Prop)(h:K w)(k:∀ w',K w'->F e a w'):F e a w:=k w h
theorem Bl.drewN{B:Nat}{a w:u}(h:Below B a w)(n:Nat):Below B a (w.drewN n):=h.trans ⟨D,D,D,ψ _,λ_ _=>rfl⟩
abbrev vL(p c l:Int)(h:Bool)(n:Int):List π:=[J Y p,J Y c,J au l,ν h,J Y n]
theorem zq5:(Tryz.prog.info? 33).map (·.size)=A 5:=by kernel_rfl
theorem ze4(W:u)(q o:Nat)(p c l n:Int)(h:Bool)(a:W.rangeAt q o (vL p c l h n)):(loadVar 33 ⟨q,o,G⟩).run ω W=.ok (ac #[J Y p,J Y c,J au l,ν h,J Y n]) W :=
 run_loadVar_mid W q o 33 _ _ a underlying33 rfl zq5
theorem Bx.five{W:u}{b:Nat}{p c l n:Int}{h:Bool}(hB:Bx W b (vL p c l h n)):W.cell? ⟨b,0,G⟩=A (J Y p)/\W.cell? ⟨b,1,G⟩=A (J Y c)/\W.cell? ⟨b,2,G⟩=A (J au l)/\W.cell? ⟨b,3,G⟩=A (ν h)/\W.cell? ⟨b,4,G⟩=A (J Y n)/\b<W.heap.size /\ ∀ o,W.frozen? ⟨b,o,G⟩=ξ :=
 ⟨hB.at 0 _ rfl,hB.at 1 _ rfl,hB.at 2 _ rfl,hB.at 3 _ rfl,hB.at 4 _ rfl,hB.z,hB.f⟩
theorem Bx.put5{W:u}{b:Nat}{L:List π}(hB:Bx W b L)(a:L.length=5)(p c l n:Int)(h:Bool):Bx (((((W.setCell ⟨b,0,G⟩ (J Y p)).setCell ⟨b,1,G⟩ (J Y c)).setCell ⟨b,2,G⟩ (J au l)).setCell ⟨b,3,G⟩ (ν h)).setCell ⟨b,4,G⟩ (J Y n)) b (vL p c l h n):=by
 have:=hB.puts 0 (vL p c l h n) (by rw[a];simp);have e:kr L 0 (vL p c l h n)=vL p c l h n:=by
  match L,a with
  | [_,_,_,_,_],_=>rfl
 rw[e] at this;exact this
theorem Bl.put5{w W:u}{b:Nat}(hB:Below w.heap.size w W)(hb:w.heap.size<=b)(p c l n:Int)(h:Bool):Below w.heap.size w (((((W.setCell ⟨b,0,G⟩ (J Y p)).setCell ⟨b,1,G⟩ (J Y c)).setCell ⟨b,2,G⟩ (J au l)).setCell ⟨b,3,G⟩ (ν h)).setCell ⟨b,4,G⟩ (J Y n)) :=
 Bl.puts (o:=0) hB hb (vL p c l h n)
theorem zyA(x:Int)(h:0<=x/\x<=65535):(bW .and Y x 1 == 1)=decide (x%2=1):=M.bit_of x h.1 h.2
structure SwW (w : u) (p c l n : Int) (h : Bool) (j : Nat) (W : u) : Prop where
 low:Below w.heap.size w W
 v:Bx W w.heap.size (vL p c l (lT h n j) (jX n j))
 r:Bx W (w.heap.size+1) (vL 0 0 0 ξ 0)
theorem znP(p c l n:Int)(h:Bool)(k:Nat)(w:u)(s:0<=n/\n<=65535)(t:n≠0)(H:k<=20001):Δ ω 204 #[ac #[J Y p,J Y c,J au l,ν h,J Y n],J Q k] w λe w'=>e=μ (ac #[J Y p,J Y c,J au l,ν (lT h n k),J Y (jX n k)])/\Below w.heap.size w w':=by
 have y:(n == 0)=ξ:=by simpa using t
 go_enter func204,ntmps204;go_wp2;go_loopw [17] (λi wr=>∃ j:Nat,j<=k/\i=J Q j/\SwW w p c l n h j wr) (λi _=>k-(aU i).toNat)
 case atStart=>exact⟨0,bh _,D,stA (stA (aR w) _) _,(Bx.new w (vL p c l h n) _ D).over _,Bx.new _ (vL 0 0 0 ξ 0) _ (by simp)⟩
 case round =>
  obtain⟨j,I,rfl,f⟩:=hrel;have d:=hid f;have z:=zsM n s j;have a:=zyz n s t j;obtain⟨t0,L,t2,t3,t4,M,tf⟩:=f.v.five;clear f;by_cases x:j<k
  ·have B:(j:Int)<k:=by omega
   have hb:=zyA _ z;by_cases hp:jX n j%2=1
   ·rw[aO hp] at hb
    have e1:jX n (j+1)=bW .xor Y (jX n j/2) 46080:=by rw[jX];unfold tU nz;rw[ae a,am hp]
    have e2:lT h n (j+1)=Γ:=by rw[lT];unfold wU;rw[ae a,aO hp]
    have g:=hid e1;have m:=hid e2;have E:=hid hp;have F:=hid a;clear e1 e2 hp a;go_wp2
    go_roundw
    case rel =>
     refine⟨j+1,x,by go_num,?_,?_,?_⟩
     ·exact Bl.set (Bl.set (Bl.set d.out.low (ψ _) _) (ψ _) _) (ψ _) _
     ·rw[g.out,m.out]
      exact((d.out.v.set 3 _ (by simp)).set 4 _ (by simp)).set 4 _ (by simp)
     ·exact((d.out.r.far (by omega) _).far (by omega) _).far (by omega) _
    case measure=>simp[aU];omega
   ·rw[aG hp] at hb
    have e1:jX n (j+1)=jX n j/2:=by rw[jX];unfold tU nz;rw[ae a,ae hp]
    have e2:lT h n (j+1)=ξ:=by rw[lT];unfold wU;rw[ae a,aG hp]
    have g:=hid e1;have m:=hid e2;have E:=hid hp;have F:=hid a;clear e1 e2 hp a;go_wp2
    go_roundw
    case rel =>
     refine⟨j+1,x,by go_num,?_,?_,?_⟩
     ·exact Bl.set (Bl.set d.out.low (ψ _) _) (ψ _) _
     ·rw[g.out,m.out]
      exact(d.out.v.set 3 _ (by simp)).set 4 _ (by simp)
     ·exact(d.out.r.far (by omega) _).far (by omega) _
    case measure=>simp[aU];omega
  ·obtain rfl:j=k:=by omega
   clear a;obtain⟨r0,r1,r2,r3,r4,N,P⟩:=d.out.r.five;go_wp2;have o:=d.out.r.put5 D p c l (jX n j) (lT h n j);have q:=Bl.put5 (b:=w.heap.size+1) d.out.low (by omega) p c l (jX n j) (lT h n j);refine Pl.cutB (λι=>Below w.heap.size w ι/\ι.rangeAt (w.heap.size+1) 0 (vL p c l (lT h n j) (jX n j))) ⟨q,o.c⟩ ?_;rintro ι ⟨q,o⟩;exact Ξ (v:=.agg _) (by simp only[results,results204];simp;exact ze4 _ _ _ _ _ _ _ _ o) D ⟨D,q⟩
theorem zln(p c l:Int)(h:Bool)(k:Nat)(w:u)(a:k<=20001):Δ ω 204 #[ac #[J Y p,J Y c,J au l,ν h,J Y 0],J Q k] w λe w'=>e=μ (ac #[J Y p,J Y c,J au l,ν (lT h 0 k),J Y (jX 0 k)])/\Below w.heap.size w w':=by
 rw[zsN,zll];have e:(!(h == ((k:Int)%2 == 1)))=(h != (k%2 == 1)):=by
  by_cases h2:k%2=1
  ·have h3:(k:Int)%2=1:=by omega
   rw[h2,h3];cases h <;> rfl
  ·have h3:(k:Int)%2=0:=by omega
   have h4:k%2=0:=by omega
   rw[h4,h3];cases h <;> rfl
 have E:=hid e;clear e;go_enter func204,ntmps204;go_wp2;rw[E.out];refine Ξ (v:=.agg _) (by simp[results,results204,go_sem]) D ⟨D,?_⟩;exact(stA (stA (aR _) _) _)
theorem zsO(p c l n:Int)(h:Bool)(k:Nat)(w:u)(d:0<=n/\n<=65535)(a:k<=20001):Δ ω 204 #[ac #[J Y p,J Y c,J au l,ν h,J Y n],J Q k] w λe w'=>e=μ (ac #[J Y p,J Y c,J au l,ν (lT h n k),J Y (jX n k)])/\Below w.heap.size w w':=by
 by_cases b:n=0
 ·subst b;exact zln p c l h k w a
 ·exact znP p c l n h k w d b a
theorem BP{W:u}{b:Nat}{x v:π}(h:W.cell? ⟨b,0,G⟩=A x):(W.setCell ⟨b,1,G⟩ v).drew.cell? ⟨b,0,G⟩=A x :=
 (ap _ _ _ _ (by intro e;exact absurd (congrArg Addr.off e) (show (1:Nat)≠0 by decide))).trans h
theorem BQ{W w1:u}{b:Nat}{p c l n:Int}{h:Bool}(hc:W.cell? ⟨b,0,G⟩=A (J Y p)/\W.cell? ⟨b,1,G⟩=A (J Y c)/\W.cell? ⟨b,2,G⟩=A (J au l)/\W.cell? ⟨b,3,G⟩=A (ν h)/\W.cell? ⟨b,4,G⟩=A (J Y n))(hb:Below W.heap.size W w1):w1.cell? ⟨b,0,G⟩=A (J Y p)/\w1.cell? ⟨b,1,G⟩=A (J Y c)/\w1.cell? ⟨b,2,G⟩=A (J au l)/\w1.cell? ⟨b,3,G⟩=A (ν h)/\w1.cell? ⟨b,4,G⟩=A (J Y n):=by
 have a:=aC W _ hc.1;exact⟨(hb.cell (p:=⟨b,0,G⟩) a).trans hc.1,(hb.cell (p:=⟨b,1,G⟩) a).trans hc.2.1,(hb.cell (p:=⟨b,2,G⟩) a).trans hc.2.2.1,(hb.cell (p:=⟨b,3,G⟩) a).trans hc.2.2.2.1,(hb.cell (p:=⟨b,4,G⟩) a).trans hc.2.2.2.2⟩
structure V2 (w : u) (p c l n : Int) (h : Bool) (W : u) : Prop where
 low:Below w.heap.size w W
 v:Bx W w.heap.size (vL p c l h n)
 r:Bx W (w.heap.size+1) (vL 0 0 0 ξ 0)
theorem V2.start(w:u)(p c l n:Int)(h:Bool)(q:Nat):V2 w p c l n h (((w.alloc (χ (vL p c l h n).toArray 33)).alloc (χ (vL 0 0 0 ξ 0).toArray 33)).drewN q):=by
 have a:V2 w p c l n h ((w.alloc (χ (vL p c l h n).toArray 33)).alloc (χ (vL 0 0 0 ξ 0).toArray 33)):=⟨stA (stA (aR w) _) _,(Bx.new w (vL p c l h n) _ D).over _,Bx.new _ (vL 0 0 0 ξ 0) _ (by simp)⟩
 have b:=Bl.drewN (bq ((w.alloc (χ (vL p c l h n).toArray 33)).alloc (χ (vL 0 0 0 ξ 0).toArray 33)).heap.size ((w.alloc (χ (vL p c l h n).toArray 33)).alloc (χ (vL 0 0 0 ξ 0).toArray 33))) q;exact⟨bw a.low b,a.v.kept b,a.r.kept b⟩
theorem zsP(p c l n:Int)(h:Bool)(m:Int)(w:u)(hp:0<=p/\p<=65535)(hc:0<=c/\c<=65535)(y:0<=n/\n<=65535)(L:0<=m/\m<=20000):Δ ω 120 #[ac #[J Y p,J Y c,J au l,ν h,J Y n],J Q m] w λe w'=>e=μ (ac #[J Y p,J Y (qC p c m),J au l,ν (lT h n (ltK p c m)),J Y (jX n (ltK p c m))])/\Below w.heap.size w w':=by
 by_cases h1:m<c+1
 ·have e1:qC p c m=c-m:=by unfold qC;rw[am h1]
  have e2:ltK p c m=0:=by unfold ltK;rw[am h1]
  rw[e1,e2];show Δ ω 120 #[ac #[J Y p,J Y c,J au l,ν h,J Y n],J Q m] w λe w'=>e=μ (ac #[J Y p,J Y (c-m),J au l,ν h,J Y n])/\Below w.heap.size w w'
  clear e1 e2;go_enter func120,ntmps120;go_wp2;go_quiet (fail)
  refine Pl.cutE (V2 w p c l n h) (V2.start w p c l n h _) ?_;intro W a;obtain⟨t0,s,t2,t3,t4,t,tf⟩:=a.v.five;obtain⟨r0,r1,r2,r3,r4,z,B⟩:=a.r.five;have d:=hid a;clear a;go_wp2;have f:=(d.out.r.far (b':=w.heap.size) (o':=1) (by omega) (J Y (c-m))).put5 D p (c-m) l n h;have g:=Bl.put5 (b:=w.heap.size+1) (Bl.set (o:=1) d.out.low (ψ _) (J Y (c-m))) (by omega) p (c-m) l n h;refine Pl.cutB (λι=>Below w.heap.size w ι/\ι.rangeAt (w.heap.size+1) 0 (vL p (c-m) l h n)) ⟨g,f.c⟩ ?_;rintro ι ⟨g,f⟩;exact Ξ (v:=.agg _) (by simp only[results,results120];simp;exact ze4 _ _ _ _ _ _ _ _ f) D ⟨D,g⟩
 ·have e1:qC p c m=p-(m-(c+1))%(p+1):=by unfold qC;rw[ae h1]
  have e2:ltK p c m=(1+(m-(c+1))/(p+1)).toNat:=by unfold ltK;rw[ae h1]
  have b1:=dL (m-(c+1)) (show p+1≠0 by omega);have b2:=dE (m-(c+1)) (show 0<p+1 by omega);have b3:0<=(m-(c+1))/(p+1):=jt (by omega) (by omega);have b4:(m-(c+1))/(p+1)<=m-(c+1):=ka _ (by omega);have M:IntKind.i64.wrap ((m-(c+1)).tmod (p+1))=(m-(c+1))%(p+1):=by rw[ak (by omega)];simp[dB,dC,cP];omega
  have N:IntKind.i64.wrap ((m-(c+1)).tdiv (p+1))=(m-(c+1))/(p+1):=by rw[aF (by omega)];simp[dB,dC,cP];omega
  have P:IntKind.u16.wrap ((m-(c+1))%(p+1))=(m-(c+1))%(p+1):=by rw[bj];omega
  have R:IntKind.u16.wrap (p-(m-(c+1))%(p+1))=p-(m-(c+1))%(p+1):=by rw[bj];omega
  have T:p+1≠0:=by omega
  have E:IntKind.i64.wrap (1+(m-(c+1))/(p+1))=1+(m-(c+1))/(p+1):=by simp[dB,dC,cP];omega
  have F:IntKind.i64.wrap ((m-(c+1))/(p+1))=(m-(c+1))/(p+1):=by simp[dB,dC,cP];omega
  have U:(m-(c+1)).tmod (p+1)=(m-(c+1))%(p+1):=ak (by omega);have V:(m-(c+1)).tdiv (p+1)=(m-(c+1))/(p+1):=aF (by omega);have x:(1+(m-(c+1))/(p+1))=((ltK p c m:Nat):Int):=by rw[e2];omega
  have H:ltK p c m<=20001:=by omega
  rw[e1];have I:=hid x;clear x e1 e2;go_enter func120,ntmps120;go_wp2;go_quiet (fail)
  refine Pl.cutE (V2 w p c l n h) (V2.start w p c l n h _) ?_;intro W a;obtain⟨t0,s,t2,t3,t4,t,tf⟩:=a.v.five;have d:=hid a;clear a;go_wp2;go_region_held3 (λw'=>w'.cell? ⟨w.heap.size,0,G⟩=A (J Y p))
   (first
     | exact BP t0
     | (go_keep;done))
   (fail)
  refine Pl.cutE (V2 w p (p-(m-(c+1))%(p+1)) l n h) ⟨(Bl.set d.out.low (ψ _) _).drew,(d.out.v.set 1 _ (by simp)).drew,(d.out.r.far (by omega) _).drew⟩ ?_;clear t0 s t2 t3 t4 t tf;intro W1 i;obtain⟨t0,s,t2,t3,t4,t,tf⟩:=i.v.five;have j:=hid i;clear i d;have q:=λW=>zsO p (p-(m-(c+1))%(p+1)) l n h (ltK p c m) W y H
  rw[<- I.out] at q;go_wp2;go_region_held3 (λw'=>w'.cell? ⟨w.heap.size,0,G⟩=A (J Y p)/\w'.cell? ⟨w.heap.size,1,G⟩=A (J Y (p-(m-(c+1))%(p+1)))/\w'.cell? ⟨w.heap.size,2,G⟩=A (J au l)/\w'.cell? ⟨w.heap.size,3,G⟩=A (ν h)/\w'.cell? ⟨w.heap.size,4,G⟩=A (J Y n))
   (first
     | with_reducible exact BQ (by assumption) (by assumption)
     | (go_keep;done))
   ((go_at_call 204;refine(q _).mono ?_;rintro e w1 ⟨rfl,k⟩;obtain⟨r0,r1,r2,r3,r4,z,B⟩:=(j.out.r.drew.kept k).five))
  go_wp2;have f:=(j.out.r.drew.kept k).put5 D p (p-(m-(c+1))%(p+1)) l (jX n (ltK p c m)) (lT h n (ltK p c m));have g:=Bl.put5 (b:=w.heap.size+1) (bw j.out.low.drew k) (by omega) p (p-(m-(c+1))%(p+1)) l (jX n (ltK p c m)) (lT h n (ltK p c m));refine Pl.cutB (λι=>Below w.heap.size w ι/\ι.rangeAt (w.heap.size+1) 0 (vL p (p-(m-(c+1))%(p+1)) l (lT h n (ltK p c m)) (jX n (ltK p c m)))) ⟨g,f.c⟩ ?_;rintro ι ⟨g,f⟩;exact Ξ (v:=.agg _) (by simp only[results,results120];simp;exact ze4 _ _ _ _ _ _ _ _ f) D ⟨D,g⟩
def pB(k:Nat):Prop:=k=7 \/ k=15 \/ k=8 \/ k=14 \/ k=9 \/ k=10 \/ k=11 \/ k=28
theorem zs1(k:Nat)(g:pB k)(a b:Int)(w:u)(f:0<=a)(c:a<=65535)(hb:0<=b)(d:b<=65535):Δ ω 356 #[J Q k,J Y a,J Y b] w λe w'=>e=μ (Ψ #[J Y (C.flN k a b),ν (C.flN k a b == 0),ν (decide (32768<=C.flN k a b)),ν (C.flC k a b),ν (C.flV k a b),J Q 0])/\Below w.heap.size w w':=by
 rcases g with rfl|rfl|rfl|rfl|rfl|rfl|rfl|rfl
 ·exact zyN a b w f c hb d
 ·exact zvX a b w f c hb d
 ·exact zyO a b w f c hb d
 ·exact zvY a b w f c hb d
 ·exact zyP a b w f c hb d
 ·exact zvZ a b w f c hb d
 ·exact zv0 a b w f c hb d
 ·exact zv1 a b w f c hb d
theorem zpV(k:Nat)(f:pB k)(a b:Int)(e:0<=a)(c:a<=65535)(hb:0<=b)(d:b<=65535):0<=C.flN k a b/\C.flN k a b<=65535:=by
 rcases f with rfl|rfl|rfl|rfl|rfl|rfl|rfl|rfl
 ·exact M.addN_bd a b
 ·exact M.addN_bd a b
 ·exact M.subN_bd a b
 ·exact M.subN_bd a b
 ·exact M.and_bd a b e c hb d
 ·exact M.or_bd a b e c hb d
 ·exact M.xor_bd a b e c hb d
 ·exact M.mulN_bd a b
abbrev lG(k d s:Nat)(n v:Int):π:=ac #[J Q k,J Q d,J Q s,J Q n,J Q v]
section
variable {σ : Type} {m : C.Mem σ} {B nr nw : Nat} {cr cw : Array π × Array π} {I : u -> σ -> Prop} {T : σ -> Nat -> Prop}
theorem ze8(R:RS m B nr nw cr cw I T)(k d s:Nat)(n v b:Int)(z:pB k)(E:d<8)(hb:0<=b)(l:b<=65535)(w:u)(p:Nat)(x:C.St σ)(i:PI B nr nw cr cw I T w p x):Δ ω 304 #[aB (A ⟨p,0,G⟩),lG k d s n v,J Y b] w λe w'=>e=μ (J Y (C.flN k (x.c.r d) b))/\PI B nr nw cr cw I T w' p (C.reckon x k (x.c.r d) b)/\PM B T p x.s x.s w w':=by
 have U:=i.reg d E;have F:=i.lt;have H:p≠w.heap.size:=by omega
 have t:p<w.heap.size+1:=by omega
 have y:=C.Cpu.r_bd i.ok d;have V:(0:Int)<=d:=by omega
 have W:(d:Int)<8:=by omega
 have g:=hid i;have h:=hid R;have L:=λw=>hid (zs1 k z (x.c.r d) b w y.1 y.2 hb l)
 clear i R;unfold C.reckon C.signs;go_enter func304,ntmps304;go_wp2;go_region_held3 (λw'=>w'.cell? ⟨w.heap.size,0,G⟩=A (J Q k)/\w'.cell? ⟨w.heap.size,1,G⟩=A (J Q d)/\w'.cell? ⟨p,d,G⟩=A (J Y (x.c.r d)))
  ((go_keep;done))
  ((go_at_call 356;refine(L _).out.mono ?_;rintro e w1 ⟨rfl,j⟩;obtain⟨k1,f1⟩:=cj j))
 have f:=bw (stA (aR w) (χ #[J Q k,J Q d,J Q s,J Q n,J Q v] 191)).drew j;have a:=g.out.kept h.out f;obtain⟨_,X,M,N,P,_,_,_,_,_⟩:=a.cells;have Z:=a.frozen;have el:=a.lt;have o:=hid a;have q:=hid f;clear a f k1 f1;go_wp2;go_ret;exact⟨D,(((o.out.putZ h.out _).putN h.out _).putC h.out _).putV h.out _,(((((PM.refl B T p x.s w).kept (g.out.hB h.out) q.out).set g.out.big 9 _).set g.out.big 10 _).set g.out.big 11 _).set g.out.big 12 _⟩
end
def mk(l:List UInt8):ByteArray:=⟨l.toArray⟩
theorem yc(l:List UInt8):(mk l).toList=l:=by rw[ByteArray.toList_eq];rfl
def gJ(l:List UInt8):List π:=l.map (λc=>J au c.toNat)
def rh(w:u)(g o:Nat)(l:List UInt8):Prop:=∀(j:Nat) (c:UInt8),l[j]?=A c->w.cell? ⟨g,o+j,G⟩=A (J au c.toNat)
theorem rh.kept{w w':u}{g o B:Nat}{l:List UInt8}(h:rh w g o l)(hb:Below B w w')(hB:g<B):rh w' g o l:=λj c a=>(hb.cell hB).trans (h j c a)
def sliceAt(w:u)(v:π)(l:List UInt8):Prop:=(∃ a b,v=κ a 0 b/\l=[]) \/ ∃ g o b,v=κ (A ⟨g,o,G⟩) l.length b/\l.length<=b/\g<w.heap.size/\rh w g o l
theorem sliceAt.kept{w w':u}{v:π}{l:List UInt8}(h:sliceAt w v l)(hb:Below w.heap.size w w'):sliceAt w' v l:=by
 rcases h with h|⟨g,o,a,h1,h2,h3,h4⟩
 ·exact aj h
 ·exact ao ⟨g,o,a,h1,h2,Θ h3 hb.size,h4.kept hb h3⟩
theorem tV{w:u}{v:π}{l:List UInt8}(h:sliceAt w v l):∃ a c,v=κ a l.length c:=by
 rcases h with⟨a,c,h1,rfl⟩|⟨g,o,c,h1,_⟩
 ·exact⟨a,c,h1⟩
 ·exact⟨_,c,h1⟩
theorem zda{w:u}{B:Nat}{v:π}{l:List UInt8}(h:w.ownsRow B 5 1 v l.length (gJ l)):sliceAt w v l:=by
 rcases h.2 with⟨rfl,i⟩|⟨g,b,a,rfl,hb,d,k,o,p,m⟩
 ·exact aj ⟨G,0,D,bM.1 i⟩
 ·refine ao ⟨g,0,b,D,k,(aa.1 d).1,λj c f=>?_⟩
  have n:=(ay.1 f).1;rw[aX,Lib.cell_of_heap d j];have e:a[j]?=(a.toList.take (l.length*1))[j]?:=by rw[gF,am (by omega)];simp
  rw[e,m,gJ,bn,f];rfl
theorem zfu{w w':u}{B:Nat}{v:π}{n:Nat}{xs:List π}(h:w.ownsRow B 5 1 v n xs)(e:∀ k,v.ownBlock=A k->w'.heap[k]?=w.heap[k]?):w'.ownsRow B 5 1 v n xs:=by
 refine⟨h.1,?_⟩;rcases h.2 with h2|⟨g,a,b,rfl,hb,c,r⟩
 ·exact aj h2
 ·exact ao ⟨g,a,b,D,hb,(e g D).trans c,r⟩
theorem zsR(l:List UInt8)(i:Nat)(hi:i<l.length):∃ c,l[i]?=A c/\(l.map (λc=>(c.toNat:Int))).getD i 0=(c.toNat:Int):=by
 refine⟨l[i],aq hi,?_⟩;simp[List.getD,aq hi]
theorem addr_add(g o j:Nat):(⟨g,o,G⟩:cK).add j=⟨g,o+j,G⟩:=by unfold Addr.add;split <;> simp_all
theorem zyC(l:List UInt8):strOfNums (l.map (λc=>(c.toNat:Int)))=mk l:=by
 unfold strOfNums mk;rw[kQ];congr 2;have:((λn:Int=>UInt8.ofNat n.toNat) ∘ λc:UInt8=>(c.toNat:Int))=id:=by funext c;simp
 rw[this,List.map_id]
theorem zju{w:u}{v:π}{l:List UInt8}(h:sliceAt w v l):(convert 26 9 v).run ω w=.ok (Ω (mk l)) w:=by
 rcases h with⟨a,b,rfl,rfl⟩|⟨g,o,b,rfl,h2,h3,h4⟩
 ·cases a with
  | none=>exact run_convert_bytes_nil w 26 5 underlying26 underlying5 0 b 9 underlying9
  | some a =>
   have d:(loadCells a 0).run ω w=.ok (([]:List Int).map (J au)).toArray w:=run_loadCells_list (P:=ω) w a [] (λj v e=>by simp at e);rw[qy w 26 9 5 _ 0 b underlying26 underlying5 underlying9,run_bytesToString w a 0 b [] d];rfl
 ·have:=run_convert_bytes_arg (P:=ω) w 26 5 underlying26 underlying5 g o l.length b (l.map (λc=>(c.toNat:Int))) (by simp) (λi hi=>by
   obtain⟨c,hc,f⟩:=zsR l i hi;rw[f];exact h4 i c hc) 9 underlying9
  rw[zyC] at this;exact this
theorem info_parts{i:Option TypeInfo}{z:π}{s y:Nat}(h:i.map (λi=>(i.zero,i.size,i.bytes))=A (A z,s,y)):∃ i0,i=A i0/\i0.zero=A z/\i0.size=s/\i0.bytes=y:=by
 cases i with
 | none=>cases h
 | some i0 =>
  simp only[iG,aZ,gv] at h;exact⟨i0,D,h.1,h.2.1,h.2.2⟩
theorem zlo(a v2:π)(l1 l2:List UInt8)(w:u)(h1:sliceAt w a l1)(h2:sliceAt w v2 l2):Δ ω 38 #[a,v2] w λe w'=>e=μ (ν (l1 == l2))/\w=w':=by
 have c1:=zju h1;have c2:=zju h2;go_enter func38,ntmps38;go_wp2;go_ret;exact⟨by simp[yc],D⟩
theorem Aq:(Tryz.prog.info? 5).map (λi=>(i.zero,i.size,i.bytes))=A (A (J au 0),1,1):=by kernel_rfl
theorem ze5(a b:List UInt8):gJ a++gJ b=gJ (a++b):=by simp[gJ]
theorem rP(B:Nat)(i:TypeInfo)(hi:Tryz.prog.info? 5=A i)(ty:aJ)(v:π)(n:Nat)(xs:List π){w:u}(b:w.ownsRow B 5 1 v n xs)(a:Option cK)(c:Nat):(fe #[26,26] ty #[v,κ a 0 c]).run ω w=.ok v w:=by
 have e:=cQ (P:=ω) underlying26;have f:(Builtin.firstCells i.size 0 (κ a 0 c)).run ω w=.ok #[] w:=by
  cases a with
  | none=>exact kJ w i.size 0 0 c
  | some a=>exact kK w i.size 0 a 0 c [] (by simp) (λj v h=>by simp at h)
 rcases b.2 with⟨rfl,rfl⟩|⟨g,k,l,rfl,_,_,d,_⟩
 ·simp[fe,e,sizeOf,typeInfo,hi,jo,f]
 ·simp[fe,e,sizeOf,typeInfo,hi,jo,f,d,storeCells]
theorem zf8{ops:Array cG}{rest:List cG}{o:cG}{a:dH}{w:u}{η:ii->dH->u->Prop}(m:o.guard=G)(s x:dk)(I:o.op=.call { callee:=.builtin .append,args:=#[s,x],argTypes:=#[26,26] })
 (B:Nat) (v:π) (xs:List UInt8) (L:a.eval s=v) (b:w.ownsRow B 5 1 v xs.length (gJ xs)) (r:π) (M:a.eval x=r) (l:List UInt8) (N:sliceAt w r l) (hb:xs.length+l.length<=100000) (hB:B<=w.heap.size)
 (h:∀ v' w',w'.ownsRow B 5 1 v' (xs++l).length (gJ (xs++l))->Below B w w'->dg ω ops η rest (a.put o.dst v') w'):dg ω ops η (o::rest) a w:=by
 obtain⟨i0,n,t,y,z⟩:=info_parts Aq;by_cases d:l=[]
 ·subst d
  have E:∃ i c,r=κ i 0 c:=by
   rcases N with⟨i,c,h1,_⟩|⟨g,o',c,h1,_⟩
   ·exact⟨i,c,h1⟩
   ·exact⟨_,c,h1⟩
  obtain⟨i,c,rfl⟩:=E;refine gj m λK T=>?_
  have p:=rP B i0 n o.type v xs.length (gJ xs) b i c;unfold Oper.wp;simp[execOp,I,resolve,invoke,builtin,L,M,p,Result.andThen];exact T _ _ (h v w (by simpa using b) (bq _ _))
 ·rcases N with⟨i,c,_,h2⟩|⟨g,o',c,h1,h2,h3,h4⟩
  ·exact absurd h2 d
  ·have q:0<l.length:=by cases l with|nil=>exact absurd D d|cons _ _=>simp
   refine wpList_append_lies _ m s x _ I B 5 i0 _ 1 1 underlying26 n t y z D (by omega) v xs.length (gJ xs) L b ⟨g,o',G⟩ l.length c (gJ l) (M.trans h1) (by simp[gJ]) (λj θ P=>?_) (λθ R=>?_) q (by unfold maxLen;omega) (by omega) hB w.heap.size D ?_
   ·simp only[gJ,bn,gn] at P
    obtain⟨cc,F,H⟩:=P;rw[<- H,show (⟨g,o',G⟩:cK).add j=⟨g,o'+j,G⟩ by unfold Addr.add;split <;> simp_all];exact h4 j cc F
   ·simp only[gJ,gc] at R
    obtain⟨cc,_,rfl⟩:=R;rfl
   ·intro g' U w' e f _ _
    refine h _ w' ?_ ((bq B w).grown f hB (λk V=>(b.lt k V).1));rw[az,<- ze5];exact e
theorem pH{P:bX}{ops:Array cG}{op:cG}{a:dH}{w:u}{K:dH->u->Prop}{η:ii->dH->u->Prop}{E:Prop}(c:op.guard=G)(ty:aJ)(x y:dk)(d:op.op=.store ty x y)
 (b o:Nat) (cells:Array π) (e:a.eval x=aB (A ⟨b,o,G⟩)) (f:a.eval y=ac cells) (g:w.there b o cells.size) (hi:(P.info? ty).map (·.size)=A cells.size) (h1:cells.all (·.oneCell')=Γ)
 (h:K (a.put op.dst undef) (w.setCells b o cells.toList)):if b9 op (yielded ops a.tmps)=Γ then Oper.wp P op a w K η else E:=by
 rw[am (by simp[b9,c])];exact wp_store_mid ty x y d b o cells e f g hi h1 h
theorem zey{P:bX}{ops:Array cG}{op:cG}{a:dH}{w:u}{K:dH->u->Prop}{η:ii->dH->u->Prop}{E:Prop}(c:op.guard=G)(ty:aJ)(x:dk)(e:op.op=.load ty x)
 (b o:Nat) (f:a.eval x=aB (A ⟨b,o,G⟩)) (cs:List π) (θ:TypeDesc) (hc:w.rangeAt b o cs) (g:P.underlying ty=A θ) (d:θ.isRow=Γ) (hi:(P.info? ty).map (·.size)=A cs.length)
 (h:K (a.put op.dst (ac cs.toArray)) w):if b9 op (yielded ops a.tmps)=Γ then Oper.wp P op a w K η else E:=by
 rw[am (by simp[b9,c])];exact wp_load_mid ty x e b o f cs θ hc g d hi h
end Go.Proofs.YthghjlinhokimaaGreatDoor
