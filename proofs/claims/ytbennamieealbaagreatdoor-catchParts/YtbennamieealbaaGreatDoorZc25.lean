/-
  Parts of a proof, joined.
-/
import Derived.Test.YtbennamieealbaaGreatDoorZc24
import Derived.Test.YtbennamieealbaaGreatDoorZc23
import Derived.Test.YtbennamieealbaaGreatDoorZc06
import Derived.Laws.EntriesVeiled
set_option linter.unusedVariables false
set_option maxRecDepth 100000
set_option maxHeartbeats 3200000
namespace Go.Proofs.YtbennamieealbaaGreatDoor
open Go.ChangeShapes Go.WideShapes Go.ChangeAt Go.RowKit
theorem zqG (f:Nat->Nat) (w:World):(Instr.index 60 (.agg (row16 f).toArray) (.int .i64 0)).run Tryz.prog w = .ok (.int .u8 (f 0)) w:=by kernel_rfl
theorem zqH (f:Nat->Nat) (w:World):(Instr.index 60 (.agg (row16 f).toArray) (.int .i64 1)).run Tryz.prog w = .ok (.int .u8 (f 1)) w:=by kernel_rfl
theorem zqI (f:Nat->Nat) (w:World):(Instr.index 60 (.agg (row16 f).toArray) (.int .i64 2)).run Tryz.prog w = .ok (.int .u8 (f 2)) w:=by kernel_rfl
theorem zqJ (f:Nat->Nat) (w:World):(Instr.index 60 (.agg (row16 f).toArray) (.int .i64 3)).run Tryz.prog w = .ok (.int .u8 (f 3)) w:=by kernel_rfl
theorem zqK (f:Nat->Nat) (w:World):(Instr.index 60 (.agg (row16 f).toArray) (.int .i64 4)).run Tryz.prog w = .ok (.int .u8 (f 4)) w:=by kernel_rfl
theorem zqL (f:Nat->Nat) (w:World):(Instr.index 60 (.agg (row16 f).toArray) (.int .i64 5)).run Tryz.prog w = .ok (.int .u8 (f 5)) w:=by kernel_rfl
theorem zqM (f:Nat->Nat) (w:World):(Instr.index 60 (.agg (row16 f).toArray) (.int .i64 6)).run Tryz.prog w = .ok (.int .u8 (f 6)) w:=by kernel_rfl
theorem zqN (f:Nat->Nat) (w:World):(Instr.index 60 (.agg (row16 f).toArray) (.int .i64 7)).run Tryz.prog w = .ok (.int .u8 (f 7)) w:=by kernel_rfl
theorem zqO (f:Nat->Nat) (w:World):(Instr.index 60 (.agg (row16 f).toArray) (.int .i64 8)).run Tryz.prog w = .ok (.int .u8 (f 8)) w:=by kernel_rfl
theorem zqP (f:Nat->Nat) (w:World):(Instr.index 60 (.agg (row16 f).toArray) (.int .i64 9)).run Tryz.prog w = .ok (.int .u8 (f 9)) w:=by kernel_rfl
theorem zoF (f:Nat->Nat) (w:World):(Instr.index 60 (.agg (row16 f).toArray) (.int .i64 10)).run Tryz.prog w = .ok (.int .u8 (f 10)) w:=by kernel_rfl
theorem zoG (f:Nat->Nat) (w:World):(Instr.index 60 (.agg (row16 f).toArray) (.int .i64 11)).run Tryz.prog w = .ok (.int .u8 (f 11)) w:=by kernel_rfl
theorem zoH (f:Nat->Nat) (w:World):(Instr.index 60 (.agg (row16 f).toArray) (.int .i64 12)).run Tryz.prog w = .ok (.int .u8 (f 12)) w:=by kernel_rfl
theorem zoI (f:Nat->Nat) (w:World):(Instr.index 60 (.agg (row16 f).toArray) (.int .i64 13)).run Tryz.prog w = .ok (.int .u8 (f 13)) w:=by kernel_rfl
theorem zoJ (f:Nat->Nat) (w:World):(Instr.index 60 (.agg (row16 f).toArray) (.int .i64 14)).run Tryz.prog w = .ok (.int .u8 (f 14)) w:=by kernel_rfl
theorem zoK (f:Nat->Nat) (w:World):(Instr.index 60 (.agg (row16 f).toArray) (.int .i64 15)).run Tryz.prog w = .ok (.int .u8 (f 15)) w:=by kernel_rfl
theorem idx16 (f:Nat->Nat) (x:Nat) (h:x<16) (w:World):(Instr.index 60 (.agg (row16 f).toArray) (.int .i64 (x:Nat))).run Tryz.prog w = .ok (.int .u8 (f x)) w:=by
 have hx:x=0 \/ x=1 \/ x=2 \/ x=3 \/ x=4 \/ x=5 \/ x=6 \/ x=7 \/ x=8 \/ x=9 \/ x=10 \/ x=11 \/ x=12 \/ x=13 \/ x=14 \/ x=15:=by omega
 rcases hx with rfl|rfl|rfl|rfl|rfl|rfl|rfl|rfl|rfl|rfl|rfl|rfl|rfl|rfl|rfl|rfl
 ·exact zqG f w
 ·exact zqH f w
 ·exact zqI f w
 ·exact zqJ f w
 ·exact zqK f w
 ·exact zqL f w
 ·exact zqM f w
 ·exact zqN f w
 ·exact zqO f w
 ·exact zqP f w
 ·exact zoF f w
 ·exact zoG f w
 ·exact zoH f w
 ·exact zoI f w
 ·exact zoJ f w
 ·exact zoK f w
theorem zsg (f:Nat->Nat) (w:World):(Instr.index 312 (.agg #[.int .u8 (f 0),.int .u8 (f 1),.int .u8 (f 2),.int .u8 (f 3)]) (.int .i64 0)).run Tryz.prog w = .ok (.int .u8 (f 0)) w:=by kernel_rfl
theorem zsh (f:Nat->Nat) (w:World):(Instr.index 312 (.agg #[.int .u8 (f 0),.int .u8 (f 1),.int .u8 (f 2),.int .u8 (f 3)]) (.int .i64 1)).run Tryz.prog w = .ok (.int .u8 (f 1)) w:=by kernel_rfl
theorem zsi (f:Nat->Nat) (w:World):(Instr.index 312 (.agg #[.int .u8 (f 0),.int .u8 (f 1),.int .u8 (f 2),.int .u8 (f 3)]) (.int .i64 2)).run Tryz.prog w = .ok (.int .u8 (f 2)) w:=by kernel_rfl
theorem zsj (f:Nat->Nat) (w:World):(Instr.index 312 (.agg #[.int .u8 (f 0),.int .u8 (f 1),.int .u8 (f 2),.int .u8 (f 3)]) (.int .i64 3)).run Tryz.prog w = .ok (.int .u8 (f 3)) w:=by kernel_rfl
theorem idx4 (f:Nat->Nat) (x:Nat) (h:x<4) (w:World):(Instr.index 312 (.agg #[.int .u8 (f 0),.int .u8 (f 1),.int .u8 (f 2),.int .u8 (f 3)]) (.int .i64 (x:Nat))).run Tryz.prog w = .ok (.int .u8 (f x)) w:=by
 have hx:x=0 \/ x=1 \/ x=2 \/ x=3:=by omega
 rcases hx with rfl|rfl|rfl|rfl
 ·exact zsg f w
 ·exact zsh f w
 ·exact zsi f w
 ·exact zsj f w
structure P0W (w : World) (m : List UInt8) (y bg bo : Nat) (fo : Nat -> Nat) (W : World) : Prop where
 low:Below w.heap.size w W
 r:Bx W w.heap.size (row16 λ_=>0)
 g:Bx W bg (row16 (gd m y))
 o:Bx W bo (row16 fo)
 d1:w.heap.size<bg
 d2:bg<bo
structure PxW (w : World) (m : List UInt8) (y bg bo bt : Nat) (fo : Nat -> Nat) (ft : Nat -> Bool) (W : World) : Prop extends P0W w m y bg bo fo W where
 t:Bx W bt (brow16 ft)
 d3:bo<bt
section
variable {w W w1 : World} {m : List UInt8} {y bg bo bt : Nat} {fo fo' : Nat -> Nat} {ft ft' : Nat -> Bool}
theorem P0W.kept (h:P0W w m y bg bo fo W) (hb:Below W.heap.size W w1):P0W w m y bg bo fo w1:=⟨stp h.low hb,h.r.kept hb,h.g.kept hb,h.o.kept hb,h.d1,h.d2⟩
theorem P0W.over (h:P0W w m y bg bo fo W) (o:Obj):P0W w m y bg bo fo (W.alloc o):=h.kept (stA (st0 W) o)
theorem P0W.congr (h:P0W w m y bg bo fo W) (e:∀ x,x<16->fo x=fo' x):P0W w m y bg bo fo' W:=⟨h.low,h.r,h.g,zbx e ▸ h.o,h.d1,h.d2⟩
theorem P0W.put (h:P0W w m y bg bo fo W) (x n:Nat) (hx:x<16):P0W w m y bg bo (λi=>if i=x then n else fo i) (W.setCell ⟨bo,x,none⟩ (.int .u8 n)):=by
 have h1:=h.d1
 have h2:=h.d2
 exact ⟨Bl.set h.low (by omega) _,h.r.far (by omega) _,h.g.far (by omega) _,zbP fo x n hx ▸ h.o.set x (.int .u8 n) (by rw [zat];exact hx),h1,h2⟩
theorem PxW.kept (h:PxW w m y bg bo bt fo ft W) (hb:Below W.heap.size W w1):PxW w m y bg bo bt fo ft w1:=⟨h.toP0W.kept hb,h.t.kept hb,h.d3⟩
theorem PxW.over (h:PxW w m y bg bo bt fo ft W) (o:Obj):PxW w m y bg bo bt fo ft (W.alloc o):=h.kept (stA (st0 W) o)
theorem PxW.congr (h:PxW w m y bg bo bt fo ft W) (e:∀ x,x<16->fo x=fo' x) (e':∀ x,x<16->ft x=ft' x):PxW w m y bg bo bt fo' ft' W:=⟨h.toP0W.congr e,zhN e' ▸ h.t,h.d3⟩
theorem PxW.take (h:PxW w m y bg bo bt fo ft W) (x:Nat) (hx:x<16):PxW w m y bg bo bt fo (λi=>if i=x then true else ft i) (W.setCell ⟨bt,x,none⟩ (.bool true)):=by
 have h1:=h.d1
 have h2:=h.d2
 have h3:=h.d3
 exact ⟨⟨Bl.set h.low (by omega) _,h.r.far (by omega) _,h.g.far (by omega) _,h.o.far (by omega) _,h1,h2⟩,zj7 ft x true hx ▸ h.t.set x (.bool true) (by rw [zcm];exact hx),h3⟩
theorem PxW.put (h:PxW w m y bg bo bt fo ft W) (x n:Nat) (hx:x<16):PxW w m y bg bo bt (λi=>if i=x then n else fo i) ft (W.setCell ⟨bo,x,none⟩ (.int .u8 n)):=by
 have h3:=h.d3
 exact ⟨h.toP0W.put x n hx,h.t.far (by omega) _,h3⟩
end
def mxN (m:List UInt8) (y:Nat) (ks:List Nat) (k i x:Nat):Nat:=if clS m k<=x/\x<clS m k+i then pxL m y (ks++[k]) x else pxL m y ks x
def mxB (m:List UInt8) (y:Nat) (ks:List Nat) (k i x:Nat):Bool:=if clS m k<=x/\x<clS m k+i then tkL m y (ks++[k]) x else tkL m y ks x
section
variable {m : List UInt8} {y : Nat} {ks : List Nat} {k i : Nat}
theorem zoL (x:Nat):mxN m y ks k 0 x=pxL m y ks x:=by unfold mxN;rw [if_neg (by omega)]
theorem zoM (x:Nat):mxB m y ks k 0 x=tkL m y ks x:=by unfold mxB;rw [if_neg (by omega)]
theorem sx_at (hi:i<4):sxS m y k (clS m k+i)=sdS m y k i:=by
 unfold sxS
 rw [if_pos (by omega),show clS m k+i-clS m k=i by omega]
theorem zpI {x:Nat} (h:¬ (clS m k<=x/\x<clS m k+4)):sxS m y k x=0:=by unfold sxS;rw [if_neg h]
theorem zoN (x:Nat):mxN m y ks k 4 x=pxL m y (ks++[k]) x:=by
 unfold mxN
 split
 ·rfl
 ·rename_i h
  exact (zcU (zpI h)).symm
theorem zoO (x:Nat):mxB m y ks k 4 x=tkL m y (ks++[k]) x:=by
 unfold mxB
 split
 ·rfl
 ·rename_i h
  rw [zcT,zpI h];simp
theorem zcV (x:Nat):mxN m y ks k (i+1) x=if x=clS m k+i then pxL m y (ks++[k]) x else mxN m y ks k i x:=by
 unfold mxN
 by_cases e:x=clS m k+i
 ·rw [if_pos e,if_pos (by omega)]
 ·rw [if_neg e]
  by_cases h:clS m k<=x/\x<clS m k+i
  ·rw [if_pos h,if_pos (by omega)]
  ·rw [if_neg h,if_neg (by omega)]
theorem zcW (x:Nat):mxB m y ks k (i+1) x=if x=clS m k+i then tkL m y (ks++[k]) x else mxB m y ks k i x:=by
 unfold mxB
 by_cases e:x=clS m k+i
 ·rw [if_pos e,if_pos (by omega)]
 ·rw [if_neg e]
  by_cases h:clS m k<=x/\x<clS m k+i
  ·rw [if_pos h,if_pos (by omega)]
  ·rw [if_neg h,if_neg (by omega)]
theorem zmu:mxN m y ks k i (clS m k+i)=pxL m y ks (clS m k+i):=by unfold mxN;rw [if_neg (by omega)]
theorem zmv:mxB m y ks k i (clS m k+i)=tkL m y ks (clS m k+i):=by unfold mxB;rw [if_neg (by omega)]
theorem zoP (h:16<=clS m k+i):(∀ x,x<16->mxN m y ks k i x=mxN m y ks k (i+1) x)/\(∀ x,x<16->mxB m y ks k i x=mxB m y ks k (i+1) x) :=
 ⟨λx hx=>by rw [zcV,if_neg (by omega)],λx hx=>by rw [zcW,if_neg (by omega)]⟩
theorem zqQ (hi:i<4) (h:sdS m y k i=0):(∀ x,x<16->mxN m y ks k i x=mxN m y ks k (i+1) x)/\(∀ x,x<16->mxB m y ks k i x=mxB m y ks k (i+1) x):=by
 have h0:sxS m y k (clS m k+i)=0:=by rw [sx_at hi];exact h
 refine ⟨λx hx=>?_,λx hx=>?_⟩
 ·rw [zcV]
  by_cases e:x=clS m k+i
  ·rw [if_pos e,e,zmu,zcU h0]
  ·rw [if_neg e]
 ·rw [zcW]
  by_cases e:x=clS m k+i
  ·rw [if_pos e,e,zmv,zcT,h0];simp
  ·rw [if_neg e]
theorem zoQ (h:tkL m y ks (clS m k+i)=true):(∀ x,x<16->mxN m y ks k i x=mxN m y ks k (i+1) x)/\(∀ x,x<16->mxB m y ks k i x=mxB m y ks k (i+1) x):=by
 refine ⟨λx hx=>?_,λx hx=>?_⟩
 ·rw [zcV]
  by_cases e:x=clS m k+i
  ·rw [if_pos e,e,zmu,zeu h]
  ·rw [if_neg e]
 ·rw [zcW]
  by_cases e:x=clS m k+i
  ·rw [if_pos e,e,zmv,zcT,h];simp
  ·rw [if_neg e]
theorem zmw (hi:i<4) (h:sdS m y k i≠0) (ht:tkL m y ks (clS m k+i)=false) (hb:128<=hwS m k) (hg:gd m y (clS m k+i)≠0):(∀ x,x<16->mxN m y ks k i x=mxN m y ks k (i+1) x)/\(∀ x,x<16->(if x=clS m k+i then true else mxB m y ks k i x)=mxB m y ks k (i+1) x):=by
 have h0:sxS m y k (clS m k+i)≠0:=by rw [sx_at hi];exact h
 refine ⟨λx hx=>?_,λx hx=>?_⟩
 ·rw [zcV]
  by_cases e:x=clS m k+i
  ·rw [if_pos e,e,zmu,zdo ht h0,if_pos ⟨hb,hg⟩]
  ·rw [if_neg e]
 ·rw [zcW]
  by_cases e:x=clS m k+i
  ·rw [if_pos e,if_pos e,e,zcT];simp [h0]
  ·rw [if_neg e,if_neg e]
theorem zmx (hi:i<4) (h:sdS m y k i≠0) (ht:tkL m y ks (clS m k+i)=false) (hb:¬ (128<=hwS m k/\gd m y (clS m k+i)≠0)):(∀ x,x<16->(if x=clS m k+i then gb m (164+sdS m y k i) else mxN m y ks k i x)=mxN m y ks k (i+1) x)/\(∀ x,x<16->(if x=clS m k+i then true else mxB m y ks k i x)=mxB m y ks k (i+1) x):=by
 have h0:sxS m y k (clS m k+i)≠0:=by rw [sx_at hi];exact h
 refine ⟨λx hx=>?_,λx hx=>?_⟩
 ·rw [zcV]
  by_cases e:x=clS m k+i
  ·rw [if_pos e,if_pos e,e,zdo ht h0,if_neg hb,sx_at hi]
  ·rw [if_neg e,if_neg e]
 ·rw [zcW]
  by_cases e:x=clS m k+i
  ·rw [if_pos e,if_pos e,e,zcT];simp [h0]
  ·rw [if_neg e,if_neg e]
end
structure Lst (W : World) (gl : Nat) (ks : List Nat) : Prop where
 z:gl<W.heap.size
 c:∀ j k,ks[j]? = some k->W.cell? ⟨gl,j,none⟩=some (.int .i64 (k:Nat))
theorem Lst.kept {W w1:World} {gl:Nat} {ks:List Nat} (h:Lst W gl ks) (hb:Below W.heap.size W w1):Lst w1 gl ks:=⟨Nat.lt_of_lt_of_le h.z hb.size,λj k hj=>(hb.cell (p:=⟨gl,j,none⟩) h.z).trans (h.c j k hj)⟩
theorem Lst.far {W:World} {gl:Nat} {ks:List Nat} (h:Lst W gl ks) {b o:Nat} (hne:b≠gl) (v:Value):Lst (W.setCell ⟨b,o,none⟩ v) gl ks:=⟨by simpa using h.z,λj k hj=>(World.cell?_setCell_far W _ _ v hne).trans (h.c j k hj)⟩
theorem Lst.of {W:World} {B:Nat} {v:Value} {ks:List Nat} (h:W.ownsRow B 3 1 v ks.length (ics ks)) (h0:ks≠[]):∃ gl c,v = .slice (some ⟨gl,0,none⟩) ks.length c/\B<=gl/\Lst W gl ks:=by
 rcases h.2 with ⟨rfl,h2⟩|⟨g,cap,cur,rfl,hb,hg,hn,hm,hs,ht⟩
 ·exact absurd (List.length_eq_zero_iff.1 h2) h0
 ·refine ⟨g,cap,rfl,hb,(Array.getElem?_eq_some_iff.1 hg).1,λj k hj=>?_⟩
  have hjl:=(List.getElem?_eq_some_iff.1 hj).1
  rw [Lib.cell_of_heap hg j]
  have e:cur[j]? = (cur.toList.take (ks.length*1))[j]?:=by rw [List.getElem?_take,if_pos (by omega)];simp
  rw [e,ht,ics,List.getElem?_map,hj]
  rfl
theorem P0W.init {w w1 w2:World} {m:List UInt8} {y:Nat} {t:TypeId} (hb1:Below (w.alloc (.cells (row16 λ_=>0).toArray t)).heap.size (w.alloc (.cells (row16 λ_=>0).toArray t)) w1)
 (hw2:w2=(w1.alloc (.cells (row16 λ_=>0).toArray t)).setCells w1.heap.size 0 (row16 (gd m y))) (hB:Bx w2 w1.heap.size (row16 (gd m y))) :
 P0W w m y w1.heap.size w2.heap.size (λi=>if i<0 then gb m (160+gd m y i) else 0) (w2.alloc (.cells (row16 λ_=>0).toArray t)):=by
 have hs:w.heap.size<w1.heap.size:=Nat.lt_of_lt_of_le (by simp) hb1.size
 refine ⟨stA ?_ _,Bx.over ?_ _,hB.over _,?_,hs,hB.z⟩
 ·rw [hw2];exact Bl.puts (stA (stp (stA (st0 w) _) hb1) _) (by omega) _
 ·rw [hw2];exact (((Bx.new w (row16 λ_=>0) t rfl).kept hb1).over _).fars (by omega) _ _
 ·exact Bx.new w2 (row16 λ_=>0) t rfl
theorem P0W.step {w W:World} {m:List UInt8} {y bg bo x:Nat} (h:P0W w m y bg bo (λi=>if i<x then gb m (160+gd m y i) else 0) W) (hx:x<16):P0W w m y bg bo (λi=>if i<x+1 then gb m (160+gd m y i) else 0) (W.setCell ⟨bo,x,none⟩ (.int .u8 (gb m (160+gd m y x)))):=by
 refine (h.put x _ hx).congr λi hi=>?_
 by_cases e:i=x
 ·subst e;simp
 ·simp only [if_neg e]
  by_cases hlt:i<x
  ·rw [if_pos hlt,if_pos (by omega)]
  ·rw [if_neg hlt,if_neg (by omega)]
structure InW (w : World) (m : List UInt8) (y bg bo bt gl bs : Nat) (ks pre : List Nat) (k i : Nat) (W : World) : Prop extends PxW w m y bg bo bt (mxN m y pre k i) (mxB m y pre k i) W where
 s:Bx W bs (scS m k)
 d4:bt<bs
 l:Lst W gl ks
 d5:bt<gl
section
variable {w W w1 : World} {m : List UInt8} {y bg bo bt gl bs : Nat} {ks pre : List Nat} {k i : Nat}
theorem InW.same (h:InW w m y bg bo bt gl bs ks pre k i W) (e:(∀ x,x<16->mxN m y pre k i x=mxN m y pre k (i+1) x)/\(∀ x,x<16->mxB m y pre k i x=mxB m y pre k (i+1) x)):InW w m y bg bo bt gl bs ks pre k (i+1) W :=
 ⟨h.toPxW.congr e.1 e.2,h.s,h.d4,h.l,h.d5⟩
theorem InW.hid (h:InW w m y bg bo bt gl bs ks pre k i W) (hx:clS m k+i<16) (e:(∀ x,x<16->mxN m y pre k i x=mxN m y pre k (i+1) x)/\(∀ x,x<16->(if x=clS m k+i then true else mxB m y pre k i x)=mxB m y pre k (i+1) x)):InW w m y bg bo bt gl bs ks pre k (i+1) (W.setCell ⟨bt,clS m k+i,none⟩ (.bool true)):=by
 have h4:=h.d4
 have h5:=h.d5
 exact ⟨(h.toPxW.take _ hx).congr e.1 e.2,h.s.far (by omega) _,h4,h.l.far (by omega) _,h5⟩
theorem InW.seen (h:InW w m y bg bo bt gl bs ks pre k i W) (hx:clS m k+i<16) (e:(∀ x,x<16->(if x=clS m k+i then gb m (164+sdS m y k i) else mxN m y pre k i x)=mxN m y pre k (i+1) x)/\(∀ x,x<16->(if x=clS m k+i then true else mxB m y pre k i x)=mxB m y pre k (i+1) x)):InW w m y bg bo bt gl bs ks pre k (i+1) ((W.setCell ⟨bt,clS m k+i,none⟩ (.bool true)).setCell ⟨bo,clS m k+i,none⟩ (.int .u8 (gb m (164+sdS m y k i)))):=by
 have h3:=h.d3
 have h4:=h.d4
 have h5:=h.d5
 exact ⟨((h.toPxW.take _ hx).put _ _ hx).congr e.1 e.2,(h.s.far (by omega) _).far (by omega) _,h4,(h.l.far (by omega) _).far (by omega) _,h5⟩
end
theorem zkc (m:List UInt8) (v:Value) (g o c:Nat) (y:Nat) (w:World) (h:Mm w m v g o c) (hy:y<8) :
 Calls Tryz.prog 192 #[v,.int .i64 y] w λe w'=>e = .returned (.agg (row16 (px m y)).toArray)/\Below w.heap.size w w':=by
 have H:=hid h
 obtain ⟨rfl,hl,hz,hc⟩:=h
 obtain ⟨ks,hks⟩:∃ ks,ks=(drS m y 8).take 2:=⟨_,rfl⟩
 have HKs:Hid (∀ k∈ks,k<8/\onS m y k=true):=λk hk=>by rw [hks] at hk;exact ⟨zsd (List.mem_of_mem_take hk),zse (List.mem_of_mem_take hk)⟩
 have HPx:px m y=pxL m y ks:=by funext x;rw [hks];rfl
 have klen:ks.length<=2:=by rw [hks,List.length_take];omega
 rw [HPx]
 have HKe:=hid hks
 clear hc hks HPx
 go_enter Tryz.func192,Tryz.ntmps192
 go_wp2_with (first
  | (go_at_call 225;refine (zkb m _ g o c y _ (H.out.kept (stA (st0 w) _)) hy).mono ?_;rintro e w1 ⟨rfl,hb1⟩)
  | (refine st16 rfl _ _ rfl w1.heap.size (gd m y) (λ_=>0) rfl rfl (Bx.new w1 (row16 λ_=>0) _ rfl) ?_;rintro w2 hw2 hB2;have HB2:=hid hB2;have HW2:=hid hw2;clear hB2 hw2)
  | (refine ld16 rfl _ rfl w1.heap.size (gd m y) rfl (HB2.out.over _) ?_))
 have HP0:Hid (P0W w m y w1.heap.size w2.heap.size (λi=>if i<0 then gb m (160+gd m y i) else 0) (w2.alloc (.cells (row16 λ_=>0).toArray 60))):=P0W.init hb1 HW2.out HB2.out
 clear hb1 HW2 HB2
 go_loopw [22] (λi wr=>∃ x:Nat,x<=16/\i = .int .i64 x/\P0W w m y w1.heap.size w2.heap.size (λi=>if i<x then gb m (160+gd m y i) else 0) wr) (λi _=>16-(intOf i).toNat)
 case atStart=>exact ⟨0,Nat.zero_le _,rfl,HP0.out⟩
 case round =>
  clear HP0
  obtain ⟨x,hx,rfl,hP⟩:=hrel
  have HP:=hid hP
  clear hP
  by_cases h16:x<16
  ·have h16':(x:Int)<16:=by omega
   have hd:=gd_lt m y x
   have ix:=λW=>idx16 (gd m y) x h16 W
   have c0:=(H.out.kept HP.out.low).c (160+gd m y x) (by omega)
   have c1:=HP.out.o.at x _ (zbV _ h16)
   have f1:=HP.out.o.f x
   go_wp2
   exact ⟨⟨x+1,h16,by go_num,HP.out.step h16⟩,by simp [intOf];omega⟩
  ·have h17:¬ (x:Int)<16:=by omega
   have e16:x=16:=by omega
   subst e16
   clear hx h16 h17
   go_wp2_with (first
    | (go_at_call 226;refine (zmr m _ g o c y _ (H.out.kept (stA HP.out.low _)) hy).mono ?_;rw [<- HKe.out];rintro e w4 ⟨s,rfl,hown,hb4⟩;have HOwn:=hid hown;have HB4:=hid hb4;obtain ⟨sa,sc,rfl⟩:=zmq hown;clear hown hb4))
   have HX0:Hid (PxW w m y w1.heap.size w2.heap.size wr.heap.size (pxL m y []) (tkL m y []) w4):=by
    have hb:=(HP.out.over (.cells (brow16 λ_=>false).toArray 305)).congr (fo':=pxL m y []) (λx hx=>by rw [if_pos hx];rfl)
    exact (⟨hb,Bx.new wr (brow16 λ_=>false) _ rfl,HP.out.o.z⟩:PxW w m y w1.heap.size w2.heap.size wr.heap.size (pxL m y []) (tkL m y []) _).kept HB4.out
   obtain ⟨bt,hbt⟩:∃ bt,bt=wr.heap.size:=⟨_,rfl⟩
   have HBt:=hid hbt
   rw [<- hbt] at HX0
   rw [<- hbt]
   clear HP HB4 hz hl hbt
   by_cases hk0:ks=[]
   ·subst hk0
    go_loopw [43] (λi W=>i = .int .i64 0/\PxW w m y w1.heap.size w2.heap.size bt (pxL m y []) (tkL m y []) W) (λ_ _=>0)
    case atStart=>exact ⟨rfl,HX0.out⟩
    case round =>
     obtain ⟨rfl,hX⟩:=hrel
     have HX:=hid hX
     clear hX HX0
     go_wp2_with (first
      | (refine ld16 rfl _ rfl _ _ rfl HX.out.o ?_)
      | (refine st16 rfl _ _ rfl w.heap.size (pxL m y []) _ rfl rfl HX.out.r ?_;rintro w' hw' hB';have HB':=hid hB';have HW':=hid hw';clear hB' hw'))
     have hl:=lv16 HB'.out
     refine bodyPost_ret (v:=.agg (row16 (pxL m y [])).toArray) ?_ rfl ⟨rfl,?_⟩
     ·simp only [results,Tryz.results192]
      simp
      exact hl
     ·rw [HW'.out];exact Bl.puts HX.out.low (Nat.le_refl _) _
   ·obtain ⟨gl,lc,hse,hgl,hLst⟩:=Lst.of HOwn.out hk0
    simp only [Value.slice.injEq] at hse
    obtain ⟨rfl,_,rfl⟩:=hse
    have HL0:Hid (bt<gl):=Nat.lt_of_lt_of_le (by rw [HBt.out];simp) hgl
    have HLs:=hid hLst
    clear HOwn hgl hLst hk0
    go_loopw [43] (λi W=>∃ j:Nat,j<=ks.length/\i = .int .i64 j/\PxW w m y w1.heap.size w2.heap.size bt (pxL m y (ks.take j)) (tkL m y (ks.take j)) W/\Lst W gl ks) (λi _=>ks.length-(intOf i).toNat)
    case atStart=>exact ⟨0,Nat.zero_le _,rfl,HX0.out,HLs.out⟩
    case round =>
     clear HX0 HLs
     obtain ⟨j,hj,rfl,hX,hL⟩:=hrel
     have HX:=hid hX
     have HL:=hid hL
     clear hX hL
     by_cases hjl:j<ks.length
     ·have hjl':(j:Int)<ks.length:=by omega
      obtain ⟨k,hk⟩:∃ k,ks[j]? = some k:=⟨ks[j],List.getElem?_eq_getElem hjl⟩
      have HK:=hid (HKs.out k (List.mem_of_getElem? hk))
      have hcl:=HL.out.c j k hk
      have HJ:Hid (ks.take (j+1)=ks.take j++[k]):=by rw [List.take_add_one,hk];rfl
      clear hk
      go_wp2_with (first
       | (go_at_call 227;refine (zbF m _ g o c k _ (H.out.kept HX.out.low) HK.out.1).mono ?_;rintro e w5 ⟨rfl,hb5⟩;have HX5:=hid (HX.out.kept hb5);have HL5:=hid (HL.out.kept hb5);clear hb5)
       | (go_at_call 228;refine (zoD m _ g o c k y _ (H.out.kept (stA HX5.out.low _)) HK.out.2 hy).mono ?_;rintro e w6 ⟨rfl,hb6⟩;have HB6:=hid hb6;clear hb6))
      have HI0:Hid (InW w m y w1.heap.size w2.heap.size bt gl w5.heap.size ks (ks.take j) k 0 w6) :=
       ⟨((HX5.out.over _).kept HB6.out).congr (λx _=>(zoL x).symm) (λx _=>(zoM x).symm),(Bx.new w5 (scS m k) 309 rfl).kept HB6.out,HX5.out.t.z,(HL5.out.kept (stA (st0 w5) _)).kept HB6.out,HL0.out⟩
      clear HX HL HX5 HL5 HB6 hcl
      go_loopw [54] (λi W=>∃ n:Nat,n<=4/\i = .int .i64 n/\InW w m y w1.heap.size w2.heap.size bt gl w5.heap.size ks (ks.take j) k n W) (λi _=>4-(intOf i).toNat)
      case atStart=>exact ⟨0,Nat.zero_le _,rfl,HI0.out⟩
      case round =>
       clear HI0
       obtain ⟨n,hn,rfl,hI⟩:=hrel
       have HI:=hid hI
       clear hI
       by_cases h4:n<4
       ·have h4':(n:Int)<4:=by omega
        have ix:=λW=>idx4 (sdS m y k) n h4 W
        have hcb:clS m k<256:=gb_lt _ _
        have s1:=HI.out.s.at 1 _ rfl
        by_cases hR:16<=clS m k+n
        ·have hR':(16:Int)<=(clS m k:Int)+n:=by omega
         go_wp2
         exact ⟨⟨n+1,h4,by go_num,HI.out.same (zoP hR)⟩,by simp [intOf];omega⟩
        ·have hR':¬ (16:Int)<=(clS m k:Int)+n:=by omega
         have hX:clS m k+n<16:=by omega
         have hsl:=zsf m y k n
         by_cases hd:sdS m y k n=0
         ·have hd':((sdS m y k n:Int) == 0)=true:=by rw [hd];rfl
          have HD:=hid hd
          clear hd
          go_wp2
          exact ⟨⟨n+1,h4,by go_num,HI.out.same (zqQ h4 HD.out)⟩,by simp [intOf];omega⟩
         ·have hd':((sdS m y k n:Int) == 0)=false:=by simp;omega
          have HD:=hid hd
          clear hd
          have ct:=HI.out.t.at (clS m k+n) _ (zd1 _ hX)
          rw [zmv] at ct
          cases ht:tkL m y (ks.take j) (clS m k+n) with
          | true =>
           rw [ht] at ct
           have HT:=hid ht
           clear ht
           go_wp2
           exact ⟨⟨n+1,h4,by go_num,HI.out.same (zoQ HT.out)⟩,by simp [intOf];omega⟩
          | false =>
           rw [ht] at ct
           have HT:=hid ht
           clear ht
           have ft:=HI.out.t.f (clS m k+n)
           have s5:=(HI.out.s.far (b':=bt) (o':=clS m k+n) (Nat.ne_of_lt HI.out.d4) (.bool true)).at 5 _ rfl
           have cg:=(HI.out.g.far (b':=bt) (o':=clS m k+n) (Nat.ne_of_gt (Nat.lt_trans HI.out.d2 HI.out.d3)) (.bool true)).at _ _ (zbV _ hX)
           have co:=(HI.out.o.far (b':=bt) (o':=clS m k+n) (Nat.ne_of_gt HI.out.d3) (.bool true)).at _ _ (zbV _ hX)
           have fo:=(HI.out.o.far (b':=bt) (o':=clS m k+n) (Nat.ne_of_gt HI.out.d3) (.bool true)).f (clS m k+n)
           have cm:=(H.out.kept (HI.out.toPxW.take _ hX).low).c (164+sdS m y k n) (by omega)
           by_cases hbh:128<=hwS m k
           ·rw [decide_eq_true hbh] at s5
            by_cases hg0:gd m y (clS m k+n)=0
            ·have hg':((gd m y (clS m k+n):Int) == 0)=true:=by rw [hg0];rfl
             have HS:=hid (zmx h4 HD.out HT.out (λhh=>hh.2 hg0))
             clear hg0
             go_wp2
             exact ⟨⟨n+1,h4,by go_num,HI.out.seen hX HS.out⟩,by simp [intOf];omega⟩
            ·have hg':((gd m y (clS m k+n):Int) == 0)=false:=by simp;omega
             have HS:=hid (zmw h4 HD.out HT.out hbh hg0)
             clear hg0
             go_wp2
             exact ⟨⟨n+1,h4,by go_num,HI.out.hid hX HS.out⟩,by simp [intOf];omega⟩
           ·rw [decide_eq_false hbh] at s5
            have HS:=hid (zmx h4 HD.out HT.out (λhh=>hbh hh.1))
            go_wp2
            exact ⟨⟨n+1,h4,by go_num,HI.out.seen hX HS.out⟩,by simp [intOf];omega⟩
       ·have h9:¬ (n:Int)<4:=by omega
        have e4:n=4:=by omega
        subst e4
        clear h4 hn
        go_wp2
        refine ⟨⟨j+1,hjl,by go_num,?_,HI.out.l⟩,by simp [intOf];omega⟩
        rw [HJ.out]
        exact HI.out.toPxW.congr (λx _=>zoN x) (λx _=>zoO x)
     ·have hj9:¬ (j:Int)<ks.length:=by omega
      have ej:ks.take j=ks:=List.take_of_length_le (by omega)
      rw [ej] at HX
      clear ej
      go_wp2_with (first
       | (refine ld16 rfl _ rfl _ _ rfl HX.out.o ?_)
       | (refine st16 rfl _ _ rfl w.heap.size (pxL m y ks) _ rfl rfl HX.out.r ?_;rintro w' hw' hB';have HB':=hid hB';have HW':=hid hw';clear hB' hw'))
      have hl:=lv16 HB'.out
      refine bodyPost_ret (v:=.agg (row16 (pxL m y ks)).toArray) ?_ rfl ⟨rfl,?_⟩
      ·simp only [results,Tryz.results192]
       simp
       exact hl
      ·rw [HW'.out];exact Bl.puts HX.out.low (Nat.le_refl _) _
def ckP (n:Nat) (y:Int):Int:=if n=256 then (if 0<=y/\y<8 then 0 else 3) else 4
theorem zix (a:Option Addr) (n c:Nat) (y:Int) (w:World):Calls Tryz.prog 191 #[.slice a n c,.int .i64 y] w λe w'=>e = .returned (.int .i64 (ckP n y))/\w=w':=by
 by_cases hn:n=256
 ·by_cases h1:y<0
  ·have e:ckP n y=3:=by unfold ckP;rw [if_pos hn,if_neg (by omega)]
   rw [e]
   subst hn
   go_enter Tryz.func191,Tryz.ntmps191
   go_wp2
   go_ret
   exact ⟨rfl,rfl⟩
  ·by_cases h2:(8:Int)<=y
   ·have e:ckP n y=3:=by unfold ckP;rw [if_pos hn,if_neg (by omega)]
    rw [e]
    subst hn
    go_enter Tryz.func191,Tryz.ntmps191
    go_wp2
    go_ret
    exact ⟨rfl,rfl⟩
   ·have e:ckP n y=0:=by unfold ckP;rw [if_pos hn,if_pos (by omega)]
    rw [e]
    subst hn
    go_enter Tryz.func191,Tryz.ntmps191
    go_wp2
    go_ret
    exact ⟨rfl,rfl⟩
 ·have e:ckP n y=4:=by unfold ckP;rw [if_neg hn]
  rw [e]
  have hn':((n:Int) != 256)=true:=by simp;omega
  go_enter Tryz.func191,Tryz.ntmps191
  go_wp2
  go_ret
  exact ⟨rfl,rfl⟩
theorem zmy (m:List UInt8) (v:Value) (g o c:Nat) (y:Nat) (w:World) (h:Mm w m v g o c) (hy:y<8) :
 Calls Tryz.prog 111 #[v,.int .i64 y] w λe w'=>e = .returned (.tuple #[.agg (row16 (px m y)).toArray,.int .i64 0])/\Below w.heap.size w w':=by
 have H:=hid h
 obtain ⟨rfl,hl,hz,hc⟩:=h
 have he:ckP 256 y=0:=by unfold ckP;rw [if_pos rfl,if_pos (by omega)]
 have HE:=hid he
 clear hc he
 go_enter Tryz.func111,Tryz.ntmps111
 go_wp2_with (first
  | (go_at_call 191;refine (zix _ _ _ _ _).mono ?_;rw [HE.out];rintro e w1 ⟨rfl,rfl⟩)
  | (go_at_call 192;refine (zkc m _ g o c y _ (H.out.kept (stA (st0 w) _)) hy).mono ?_;rintro e w2 ⟨rfl,hb2⟩)
  | (refine st16 rfl _ _ rfl w.heap.size (px m y) (λ_=>0) rfl rfl ((Bx.new w (row16 λ_=>0) _ rfl).kept hb2) ?_;rintro w3 hw3 hB3;have HB3:=hid hB3;have HW3:=hid hw3;clear hB3 hw3))
 have hl:=lv16 HB3.out
 refine bodyPost_ret (v:=.tuple #[.agg (row16 (px m y)).toArray,.int .i64 0]) ?_ rfl ⟨rfl,?_⟩
 ·simp only [results,Tryz.results111]
  simp
  show (Result.andThen (Sem.run Tryz.prog (loadVar 60 ⟨w.heap.size,0,none⟩) w3) _)=_
  rw [hl]
  rfl
 ·rw [HW3.out];exact Bl.puts (stp (stA (st0 w) _) hb2) (Nat.le_refl _) _
structure Inp where
 c:Int
 p:Int
 d:Int
structure Lin where
 f:Int
 l:Int
 px:Nat->Nat
def Pd.press (p:Pd) (x:Int):Pd:=⟨x,p.l,sel p.l x p.s⟩
def Mach.press (M:Mach) (x:Inp):Mach:=if x.p=0 then { M with p0:=M.p0.press x.d } else { M with p1:=M.p1.press x.d }
def Mach.pressed (M:Mach):List Inp->Mach
 | []=>M
 | x::l=>if x.c<=M.clock then (M.press x).pressed l else M
def Mach.coming (M:Mach):List Inp->List Inp
 | []=>[]
 | x::l=>if x.c<=M.clock then M.coming l else x::l
def Mach.line (M:Mach):List Lin:=if M.b.a=0/\M.b.l<8 then [⟨M.b.f,M.b.l,px M.video M.b.l.toNat⟩] else []
def Mach.sample (M:Mach):List UInt8:=if M.s.w=0 then sms M.s 1 else []
def Bst.stepMain (s:Bst):Bst :=
 if s.M.clock<s.M.mready then s else
  let y:=C.step mainMem s.M.main ⟨s.M,0,s.l⟩ (s.M.t.g || s.M.b.g)
  ⟨{ y.s.M with main:=y.c,mready:=y.s.M.clock+3*y.n+y.s.n },y.s.n,y.s.l⟩
def Bst.stepAux (s:Bst):Bst :=
 if s.M.held=true \/ s.M.clock<s.M.aready then s else
  let y:=C.step auxMem s.M.aux s s.M.rung
  ⟨{ y.s.M with aux:=y.c,aready:=y.s.M.clock+5*y.n },y.s.n,y.s.l⟩
def Bem.one (b:Bem):Bem:=if bok b.l b.a b.f then ⟨bmL b.l b.a 1,bmA b.l b.a 1,bmG b.l b.a b.g 1,bmF b.l b.a b.f 1⟩ else ⟨0,0,false,0⟩
def Mach.goOn (M:Mach):Mach:={ M with t:=⟨M.t.r,tkC M.t.r M.t.c M.t.on,M.t.on,tkG M.t.c M.t.on M.t.g⟩,s:=M.s.ticks 1,b:=M.b.one,clock:=M.clock+1 }
structure Cs where
 s:Bst
 co:List Inp
 ln:List Lin
 sm:List UInt8
def Cs.now (c:Cs):Cs :=
 let M:=c.s.M.pressed c.co
 ⟨(Bst.stepMain ⟨M,c.s.n,c.s.l⟩).stepAux,c.s.M.coming c.co,c.ln++M.line,c.sm++M.sample⟩
def Cs.clock (c:Cs):Cs:={ c.now with s:=⟨c.now.s.M.goOn,c.now.s.n,c.now.s.l⟩ }
def Cs.clocks (c:Cs):Nat->Cs
 | 0=>c
 | k+1=>(c.clocks k).clock
/-! ### what is in range stays in range -/
theorem Bem.one_ok {b:Bem} (h:BOr b.l b.a b.f):BOr b.one.l b.one.a b.one.f:=by
 unfold Bem.one
 split
 ·rename_i hb
  have hk:=(zax _ _ _).1 hb
  have:=hk.l0;have:=hk.l1;have:=hk.a0;have:=hk.a1;have:=hk.f0;have:=hk.f1
  refine ⟨?_,?_,?_,?_,?_,?_⟩ <;> simp only [bmL,bmA,bmF] <;> omega
 ·exact ⟨by decide,by decide,by decide,by decide,by decide,by decide⟩
theorem tk_bd {r c:Int} {on:Bool} (hr:bd16 r) (hc:bd16 c):bd16 (tkC r c on):=by
 unfold tkC bd16 at *
 split
 ·split <;> omega
 ·omega
theorem zoR {M:Mach} (h:M.fit) (hc:M.clock<200000):M.goOn.fit where
 main:=h.main
 aux:=h.aux
 p0:=h.p0
 p1:=h.p1
 tr:=h.tr
 tc:=tk_bd h.tr h.tc
 s:=(Sd.ticks_fit (k:=1) (s:=M.s) { h.s with w:=h.w }).took
 fr:=h.fr
 «to»:=h.to
 m0:=h.m0
 m1:=h.m1
 mrom:=h.mrom
 arom:=h.arom
 ram:=h.ram
 own:=h.own
 video:=h.video
 w:=(Sd.ticks_fit (k:=1) (s:=M.s) { h.s with w:=h.w }).w
 b:=Bem.one_ok h.b
 clock:=by have:=h.clock;show 0<=M.clock+1/\M.clock+1<=200000;omega
 mready:=by have:=h.mready;show 0<=M.mready/\M.mready<=M.clock+1+20000;omega
 aready:=by have:=h.aready;show 0<=M.aready/\M.aready<=M.clock+1+20000;omega
theorem Pd.press_ok {p:Pd} (h:p.ok) {x:Int} (hx:0<=x/\x<=255):(p.press x).ok:=⟨hx,by
 show 0<=sel p.l x p.s/\sel p.l x p.s<=255
 unfold sel
 have:=h.s
 split <;> omega⟩
theorem zaf {P:Program} {a:Act} {o:Oper} {w:World} (ty:TypeId) (x:Operand) (ho:o.op = .load ty x) (b off:Nat) (hx:a.eval x = .pointer (some ⟨b,off,none⟩)) (cs:List Value) (u:TypeDesc) (hc:w.rangeAt b off cs) (hu:P.underlying ty=some u) (hag:u.isRow=true) (hi:(P.info? ty).map (·.size)=some cs.length) :
 (execOp a.eval o).run P w = .ok (.value (.agg cs.toArray)) w:=by
 unfold execOp
 simp only [ho,hx,Sem.run_bind,run_loadAt_mid w b off ty cs u hc hu hag hi,Result.andThen_ok,Sem.run_pure]
def conL (F:Fx) (vco vln vsm:Value):List Value:=[pt F.g 0,vco,vln,vsm,.slice none 0 0,pt F.g 0]
structure CB (F : Fx) (N c : Nat) (vco vln vsm : Value) (w : World) : Prop where
 n:N<=c
 blk:w.heap[c]? = some (.cells (conL F vco vln vsm).toArray 93 (0,0))
section
variable {F : Fx} {N c : Nat} {vco vln vsm : Value} {w w1 : World} {s s' : Bst}
theorem CB.z (h:CB F N c vco vln vsm w):c<w.heap.size:=(Array.getElem?_eq_some_iff.1 h.blk).1
theorem CB.bx (h:CB F N c vco vln vsm w):Bx w c (conL F vco vln vsm):=⟨h.z,λj v hj=>(Lib.cell_of_heap h.blk (0+j)).trans (by rw [Nat.zero_add,List.getElem?_toArray];exact hj),λo=>Lib.frozen_of_heap h.blk o⟩
theorem CB.out (h:CB F N c vco vln vsm w):¬ Tw (BT N) w s c:=Tw.of (λe=>Nat.not_lt.2 h.n e) h.blk (by decide)
theorem CB.same (h:CB F N c vco vln vsm w) (e:w1.heap[c]? = w.heap[c]?):CB F N c vco vln vsm w1:=⟨h.n,e.trans h.blk⟩
theorem CB.kept (h:CB F N c vco vln vsm w) (hb:Below w.heap.size w w1):CB F N c vco vln vsm w1:=h.same (hb.block c h.z)
structure NM (F : Fx) (N : Nat) (w : World) (s s' : Bst) (w1 : World) : Prop where
 i:BI F N w1 s'
 m:Mv F.B (Tw (BT N) w s) (Tw (BT N) w1 s') w w1
theorem NM.cb (h:NM F N w s s' w1) (hc:CB F N c vco vln vsm w):CB F N c vco vln vsm w1:=hc.same (h.m.block c hc.z hc.out)
theorem NM.trans {s2:Bst} {w2:World} (h:NM F N w s s' w1) (k:NM F N w1 s' s2 w2):NM F N w s s2 w2:=⟨k.i,h.m.trans k.m⟩
theorem BI.big (h:BI F N w s):F.B<=w.heap.size:=by obtain ⟨v,hB⟩:=h.bd;exact hB.big
theorem BI.kept (hF:Fb F N) (h:BI F N w s) (hb:Below w.heap.size w w1):BI F N w1 s:=h.keep hF hb.size (λk hk=>hb.block k (hk.lt (λj hj=>Nat.lt_of_lt_of_le hj h.N)))
theorem NM.refl (hF:Fb F N) (h:BI F N w s) (hb:Below w.heap.size w w1):NM F N w s s w1:=⟨h.kept hF hb,(Mv.of_below (T:=Tw (BT N) w s) h.big hb).weak (λk hk=>hk.low hb)⟩
theorem NM.of (hF:Fb F N) (hI:BI F N w s) (hn:0<=s'.n) {v:Value} (hB:Bd F w1 s'.M ⟨s'.n,s'.l,v⟩) (ht:Bt F w w1):NM F N w s s' w1:=by
 obtain ⟨h1,h2⟩:=BE.out hF hI (⟨⟨v,hB⟩,ht.w⟩:BE F w w1 s') hn
 exact ⟨h1,h2⟩
theorem Bd.mainR {W:World} {M:Mach} {tk:Tk} (h:Bd F W M tk):W.rangeAt F.g 0 (cpuL M.main):=λi v hi=>by
 refine h.at (0+i) v ?_
 have hl:=(List.getElem?_eq_some_iff.1 hi).1
 have hc:i=0 \/ i=1 \/ i=2 \/ i=3 \/ i=4 \/ i=5 \/ i=6 \/ i=7 \/ i=8 \/ i=9 \/ i=10 \/ i=11 \/ i=12 \/ i=13 \/ i=14:=by simp [cpuL] at hl;omega
 rcases hc with rfl|rfl|rfl|rfl|rfl|rfl|rfl|rfl|rfl|rfl|rfl|rfl|rfl|rfl|rfl <;> exact hi
theorem Bd.auxR {W:World} {M:Mach} {tk:Tk} (h:Bd F W M tk):W.rangeAt F.g 15 (cpuL M.aux):=λi v hi=>by
 refine h.at (15+i) v ?_
 have hl:=(List.getElem?_eq_some_iff.1 hi).1
 have hc:i=0 \/ i=1 \/ i=2 \/ i=3 \/ i=4 \/ i=5 \/ i=6 \/ i=7 \/ i=8 \/ i=9 \/ i=10 \/ i=11 \/ i=12 \/ i=13 \/ i=14:=by simp [cpuL] at hl;omega
 rcases hc with rfl|rfl|rfl|rfl|rfl|rfl|rfl|rfl|rfl|rfl|rfl|rfl|rfl|rfl|rfl <;> exact hi
theorem zmz (c:C.Cpu):(cpuL c).toArray.all (·.oneCell')=true:=by simp [cpuL,Value.oneCell']
end
end Go.Proofs.YtbennamieealbaaGreatDoor
