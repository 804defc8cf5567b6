/-
  Parts of a proof, joined.
-/
import Derived.Test.YthghjlinhokimaaGreatDoorZcA
import Derived.Test.YthghjlinhokimaaGreatDoorZc26
import Derived.Test.YthghjlinhokimaaGreatDoorZc28
set_option linter.all false
set_option maxRecDepth 100000
namespace Go.Proofs.YthghjlinhokimaaGreatDoor
open Go.ChangeShapes Go.WideShapes Go.ChangeAt Go.RowKit Go.Proofs.Tryz
abbrev nf:List Value:=[.slice none 0 0,.int .i64 0]
theorem qu(M:Mach)(S:Sl)(w:World):(Instr.build 107 #[(0,.agg (D M S).toArray)]).run prog w=.ok (.agg (D M S++nf).toArray) w:=by kernel_rfl
theorem Gd.row{F:Gx}{W:World}{M:Mach}{tk:Tk}(h:Gd F W M tk):W.rangeAt F.g 0 (D M F.S):=λi v hi=>h.bx.at (0+i) v (by
 rw[aN];unfold Gx.cells;rw[aR (aA.1 hi).1];exact hi)
theorem Gd.slAt{F:Gx}{W:World}{M:Mach}{tk:Tk}(h:Gd F W M tk):bM W F.S M:=λj a=>by
 rcases five a with rfl|rfl|rfl|rfl|rfl
 ·exact h.mr
 ·exact h.ar
 ·exact h.ra.slice
 ·exact h.ow.slice
 ·exact h.vi.slice
def Gx.all(F:Gx)(k:Nat):Prop:=F.T k \/ F.S.mr.ownBlock=some k \/ F.S.ar.ownBlock=some k
theorem Gd.of_same{F:Gx}{W w1:World}{M:Mach}{tk:Tk}(h:Gd F W M tk)(b:W.heap.size<=w1.heap.size)(e:∀ k,k<W.heap.size->F.all k->w1.heap[k]?=W.heap[k]?)(d:∀ k,tk.v.ownBlock=some k->w1.heap[k]?=W.heap[k]?):Gd F w1 M tk :=
 ⟨h.bx.same b (e _ h.bx.z (Or.inl (Or.inl rfl))),h.mr.same b (λ_ k a c=>e k c (Or.inr (Or.inl a))),h.ar.same b (λ_ k a c=>e k c (Or.inr (Or.inr a))),h.ra.same b (λa=>e _ a (Or.inl (Or.inr (Or.inl rfl)))),h.ow.same b (λa=>e _ a (Or.inl (Or.inr (Or.inr (Or.inl rfl))))),h.vi.same b (λa=>e _ a (Or.inl (Or.inr (Or.inr (Or.inr rfl))))),h.nd,h.fit,ax h.big b,fF h.ws d,h.rd,h.wd⟩
theorem Gd.ofOwn{B:Nat}{S:Sl}{M:Mach}{Y:World}(h:OwnS B S M Y)(s:M.fit)(hB:B<=Y.heap.size)(t:TypeId):∃ F:Gx,F.B=B/\F.g=Y.heap.size/\F.S=S/\Gd F (Y.alloc (.cells (D M S++nf).toArray t)) M Tk.zero/\(∀ k,F.all k->B<=k/\k<(Y.alloc (.cells (D M S++nf).toArray t)).heap.size) /\ ∀ k,F.all k->k=Y.heap.size \/ ∃ j,j<5/\(S.get j).ownBlock=some k:=by
 obtain⟨b,r2,b2,o2⟩:=(h.own 2 (by omega)).rw;obtain⟨c,r3,b3,l⟩:=(h.own 3 (by omega)).rw;obtain⟨d,r4,u,m⟩:=(h.own 4 (by omega)).rw;have z2:=((h.own 2 (by omega)).lt b o2).2;have z3:=((h.own 3 (by omega)).lt c l).2;have z4:=((h.own 4 (by omega)).lt d m).2;have o:b≠c:=λe=>h.dist 2 3 b (by omega) (by omega) (by omega) o2 (by rw[e];exact l)
 have p:b≠d:=λe=>h.dist 2 4 b (by omega) (by omega) (by omega) o2 (by rw[e];exact m)
 have q:c≠d:=λe=>h.dist 3 4 c (by omega) (by omega) (by omega) l (by rw[e];exact m)
 have f:∀ k,(Gx.mk B Y.heap.size 0 0 b c d S).all k->k=Y.heap.size \/ ∃ j,j<5/\(S.get j).ownBlock=some k:=λk a=>by
  rcases a with(e|e|e|e)|e|e
  ·exact Or.inl e
  ·exact Or.inr ⟨2,by omega,by have n:k=b:=e;rw[n];exact o2⟩
  ·exact Or.inr ⟨3,by omega,by have n:k=c:=e;rw[n];exact l⟩
  ·exact Or.inr ⟨4,by omega,by have n:k=d:=e;rw[n];exact m⟩
  ·exact Or.inr ⟨0,by omega,e⟩
  ·exact Or.inr ⟨1,by omega,e⟩
 have i:∀ j,j<2->∀ k,(S.get j).ownBlock=some k->¬ (k=Y.heap.size \/ k=b \/ k=c \/ k=d):=λj r k a e=>by
  have v:=((h.own j (by omega)).lt k a).2;rcases e with e|e|e|e
  ·omega
  ·exact h.dist j 2 k (by omega) (by omega) (by omega) a (by rw[e];exact o2)
  ·exact h.dist j 3 k (by omega) (by omega) (by omega) a (by rw[e];exact l)
  ·exact h.dist j 4 k (by omega) (by omega) (by omega) a (by rw[e];exact m)
 have hb:=stA (J Y) (.cells (D M S++nf).toArray t);refine⟨⟨B,Y.heap.size,0,0,b,c,d,S⟩,U,U,U,⟨Bx.new Y _ t U,(h.slAt 0 (by omega)).kept hb,(h.slAt 1 (by omega)).kept hb,r2.same hb.size (λa=>hb.block _ a),r3.same hb.size (λa=>hb.block _ a),r4.same hb.size (λa=>hb.block _ a),⟨⟨hB,b2,b3,u⟩,⟨by show Y.heap.size≠b;omega,by show Y.heap.size≠c;omega,by show Y.heap.size≠d;omega,o,p,q⟩⟩,s,ax hB hb.size,cW _ _ _ _,⟨λ_ k a=>i 0 (by omega) k a,λ_ k a=>i 1 (by omega) k a⟩,λk a=>by cases a⟩,λk a=>?_,f⟩;rcases f k a with e|⟨j,r,e⟩
 ·rw[e];exact⟨hB,by simp⟩
 ·obtain⟨a1,a2⟩:=(h.own j r).lt k e
  exact⟨a1,ap a2 hb.size⟩
end Go.Proofs.YthghjlinhokimaaGreatDoor
