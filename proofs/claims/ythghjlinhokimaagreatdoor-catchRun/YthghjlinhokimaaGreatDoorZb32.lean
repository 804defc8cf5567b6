/-
  Parts of a proof, joined.
-/
import Derived.Test.YthghjlinhokimaaGreatDoorZbA
import Derived.Test.YthghjlinhokimaaGreatDoorZb26
import Derived.Test.YthghjlinhokimaaGreatDoorZb28
set_option linter.all false
set_option maxRecDepth 100000
open Option renaming some->A
open Go renaming World->u
open Go.Act renaming put->ag
open Or renaming inl->aj,inr->ao
namespace Go.Proofs.YthghjlinhokimaaGreatDoor
open Go.ChangeShapes Go.WideShapes Go.ChangeAt Go.RowKit Go.Proofs.Tryz
abbrev sj:List Value:=[.slice none 0 0,.int .i64 0]
theorem xq(M:Mach)(S:Sl)(w:u):(Instr.build 107 #[(0,.agg (υ M S).toArray)]).run prog w=.ok (.agg (υ M S++sj).toArray) w:=by kernel_rfl
theorem Gd.row{F:Gx}{W:u}{M:Mach}{tk:Tk}(h:Gd F W M tk):W.rangeAt F.g 0 (υ M F.S):=λi v hi=>h.bx.at (0+i) v (by
 rw[aX];unfold Gx.cells;rw[bc (ay.1 hi).1];exact hi)
theorem Gd.slAt{F:Gx}{W:u}{M:Mach}{tk:Tk}(h:Gd F W M tk):cf W F.S M:=λj a=>by
 rcases five a with rfl|rfl|rfl|rfl|rfl
 ·exact h.mr
 ·exact h.ar
 ·exact h.ra.slice
 ·exact h.ow.slice
 ·exact h.vi.slice
def Gx.all(F:Gx)(k:Nat):Prop:=F.T k \/ F.S.mr.ownBlock=A k \/ F.S.ar.ownBlock=A k
theorem Gd.of_same{F:Gx}{W w1:u}{M:Mach}{tk:Tk}(h:Gd F W M tk)(b:W.heap.size<=w1.heap.size)(e:∀ k,k<W.heap.size->F.all k->w1.heap[k]?=W.heap[k]?)(d:∀ k,tk.v.ownBlock=A k->w1.heap[k]?=W.heap[k]?):Gd F w1 M tk :=
 ⟨h.bx.same b (e _ h.bx.z (aj (aj rfl))),h.mr.same b (λ_ k a c=>e k c (ao (aj a))),h.ar.same b (λ_ k a c=>e k c (ao (ao a))),h.ra.same b (λa=>e _ a (aj (ao (aj rfl)))),h.ow.same b (λa=>e _ a (aj (ao (ao (aj rfl))))),h.vi.same b (λa=>e _ a (aj (ao (ao (ao rfl))))),h.nd,h.fit,ax h.big b,jr h.ws d,h.rd,h.wd⟩
theorem Gd.ofOwn{B:Nat}{S:Sl}{M:Mach}{ι:u}(h:OwnS B S M ι)(p:M.fit)(hB:B<=ι.heap.size)(t:TypeId):∃ F:Gx,F.B=B/\F.g=ι.heap.size/\F.S=S/\Gd F (ι.alloc (.cells (υ M S++sj).toArray t)) M Tk.zero/\(∀ k,F.all k->B<=k/\k<(ι.alloc (.cells (υ M S++sj).toArray t)).heap.size) /\ ∀ k,F.all k->k=ι.heap.size \/ ∃ j,j<5/\(S.get j).ownBlock=A k:=by
 obtain⟨k2,r2,b2,o2⟩:=(h.own 2 (by omega)).rw;obtain⟨b,r3,b3,o3⟩:=(h.own 3 (by omega)).rw;obtain⟨c,r4,b4,o4⟩:=(h.own 4 (by omega)).rw;have z2:=((h.own 2 (by omega)).lt k2 o2).2;have z3:=((h.own 3 (by omega)).lt b o3).2;have z4:=((h.own 4 (by omega)).lt c o4).2;have l:k2≠b:=λe=>h.dist 2 3 k2 (by omega) (by omega) (by omega) o2 (by rw[e];exact o3)
 have m:k2≠c:=λe=>h.dist 2 4 k2 (by omega) (by omega) (by omega) o2 (by rw[e];exact o4)
 have n:b≠c:=λe=>h.dist 3 4 b (by omega) (by omega) (by omega) o3 (by rw[e];exact o4)
 have d:∀ k,(Gx.mk B ι.heap.size 0 0 k2 b c S).all k->k=ι.heap.size \/ ∃ j,j<5/\(S.get j).ownBlock=A k:=λk a=>by
  rcases a with(e|e|e|e)|e|e
  ·exact aj e
  ·exact ao ⟨2,by omega,by have i:k=k2:=e;rw[i];exact o2⟩
  ·exact ao ⟨3,by omega,by have i:k=b:=e;rw[i];exact o3⟩
  ·exact ao ⟨4,by omega,by have i:k=c:=e;rw[i];exact o4⟩
  ·exact ao ⟨0,by omega,e⟩
  ·exact ao ⟨1,by omega,e⟩
 have f:∀ j,j<2->∀ k,(S.get j).ownBlock=A k->¬ (k=ι.heap.size \/ k=k2 \/ k=b \/ k=c):=λj o k a e=>by
  have q:=((h.own j (by omega)).lt k a).2;rcases e with e|e|e|e
  ·omega
  ·exact h.dist j 2 k (by omega) (by omega) (by omega) a (by rw[e];exact o2)
  ·exact h.dist j 3 k (by omega) (by omega) (by omega) a (by rw[e];exact o3)
  ·exact h.dist j 4 k (by omega) (by omega) (by omega) a (by rw[e];exact o4)
 have hb:=stA (aR ι) (.cells (υ M S++sj).toArray t);refine⟨⟨B,ι.heap.size,0,0,k2,b,c,S⟩,D,D,D,⟨Bx.new ι _ t D,(h.slAt 0 (by omega)).kept hb,(h.slAt 1 (by omega)).kept hb,r2.same hb.size (λa=>hb.block _ a),r3.same hb.size (λa=>hb.block _ a),r4.same hb.size (λa=>hb.block _ a),⟨⟨hB,b2,b3,b4⟩,⟨by show ι.heap.size≠k2;omega,by show ι.heap.size≠b;omega,by show ι.heap.size≠c;omega,l,m,n⟩⟩,p,ax hB hb.size,eU _ _ _ _,⟨λ_ k a=>f 0 (by omega) k a,λ_ k a=>f 1 (by omega) k a⟩,λk a=>by cases a⟩,λk a=>?_,d⟩;rcases d k a with e|⟨j,o,e⟩
 ·rw[e];exact⟨hB,by simp⟩
 ·obtain⟨a1,a2⟩:=(h.own j o).lt k e
  exact⟨a1,Θ a2 hb.size⟩
end Go.Proofs.YthghjlinhokimaaGreatDoor
