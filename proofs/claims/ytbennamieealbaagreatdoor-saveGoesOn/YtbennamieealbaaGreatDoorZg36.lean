/-
  Parts of a proof, joined.
-/
import Derived.Test.YtbennamieealbaaGreatDoorZg31
import Derived.Test.YtbennamieealbaaGreatDoorZg35
import Derived.Test.YtbennamieealbaaGreatDoorZg33
import Derived.Test.YtbennamieealbaaGreatDoorZg01
import Derived.Test.YtbennamieealbaaGreatDoorZg19
import Derived.Test.YtbennamieealbaaGreatDoorZg00
import Derived.Lib.ItoaNum
import Derived.Lib.AtoiAll
import Derived.Lib.Join
import Derived.Lib.Strings
import Derived.Lib.IndexMore
import Derived.Lib.Split
import Derived.Test.YtbennamieealbaaGreatDoorChecked
import GoSem.PinnedTables
import GoSem.Claim
import GoSem.ClaimJoined
import GoSem.ClaimMapViews
import Derived.JoinedTies
import Derived.KernelRfl
import Derived.WalkKit
import Derived.ProofKit
import Derived.OpenShut
import Derived.WalkSpells
import Derived.Outline
import Derived.Test.YtbennamieealbaaGreatDoorZg24
import Derived.Deep.AppendLies
import Derived.Test.YtbennamieealbaaGreatDoorZg20
import Derived.Shelf.Small.Wraps
import Derived.Shelf.LaysM
import Derived.Shelf.Strconv.Itoa3
import Derived.Shelf.LaysC
import Derived.Shelf.Strconv.AtoiAll
import Derived.Shelf.Strings.Cut
import Derived.Shelf.Strings.Count
import Derived.Shelf.Strings.Split
import Derived.Test.YtbennamieealbaaGreatDoorProg
import Derived.Test.YtbennamieealbaaGreatDoorZg25
import Derived.Lib.SmallJoins
import Derived.Deep.QuietTactic
import Derived.BigQuiet
import Derived.Maps.OwnOps
import Derived.ChangeMaps5
import Derived.Deep.RegionLaw
import Derived.BigRegion
import Derived.Deep.RegionHeld3
import Derived.Defers
import Derived.Recover
import Derived.Laws.Pointers
import Derived.Shelf.Bytes.SlSearch0
import Derived.Laws.BytesArg
set_option linter.unusedVariables false
set_option maxRecDepth 100000
namespace Go.Proofs.YtbennamieealbaaGreatDoor
open Go.ChangeShapes Go.WideShapes Go.ChangeAt Go.RowKit
section
variable {F : Fx} {W : World} {M M' : Mach} {tk : Tk}
theorem Lk.run1 (b:Bem) (w:World) (h:BOr b.l b.a b.f):Calls Tryz.prog 66 #[.agg #[.int .i64 b.l,.int .i64 b.a,.bool b.g,.int .i64 b.f],.int .i64 1] w λe w'=>∃ x,e = .returned (.tuple #[.agg #[.int .i64 b.one.l,.int .i64 b.one.a,.bool b.one.g,.int .i64 b.one.f],.int .i64 x])/\Below w.heap.size w w':=by
 unfold Bem.one
 by_cases hk:bok b.l b.a b.f=true
 ·rw [if_pos hk]
  refine (zez b.l b.a b.f 1 b.g w ((zax _ _ _).1 hk) ⟨by decide,by decide⟩).mono ?_
  rintro e w1 ⟨rfl,hb⟩
  exact ⟨_,rfl,hb⟩
 ·rw [if_neg hk]
  refine (zeA b.l b.a b.f 1 b.g w (Or.inl (λx=>hk ((zax _ _ _).2 x)))).mono ?_
  rintro e w1 ⟨rfl,hb⟩
  exact ⟨_,rfl,hb⟩
end
section
variable {F : Fx} {N c : Nat} {vco vln vsm vw : Value} {w w1 : World} {k : Cs} {X : Mach} {L1 L2 : List Value} {Y : World} {D : Nat}
structure RR (w : World) (L1 L2 : List Value) (Y : World) : Prop where
 low:Below w.heap.size w Y
 b1:Bx Y (w.heap.size+1) L1
 b2:Bx Y (w.heap.size+2) L2
theorem RR.kept (h:RR w L1 L2 Y) (hb:Below Y.heap.size Y w1):RR w L1 L2 w1:=⟨stp h.low hb,h.b1.kept hb,h.b2.kept hb⟩
theorem RR.far {B:Nat} (h:RR w L1 L2 Y) (hB:w.heap.size+3<=B) (hb:Below B Y w1):RR w L1 L2 w1:=⟨h.low.trans (hb.mono (by omega)),h.b1.same hb.size (hb.block _ (by omega)),h.b2.same hb.size (hb.block _ (by omega))⟩
structure FW (F : Fx) (N : Nat) (k : Cs) (X : Mach) (vln vsm vw : Value) (w : World) (D : Nat) (L1 L2 : List Value) (Y : World) : Prop extends RR w L1 L2 Y where
 o1:Bx Y D (machL X F.S)
 o2:Bx Y (D+1) [vln,vsm,vw]
 told:Told F N k vln vsm vw Y
 dz:w.heap.size+3<=D
 new:SlNew F.B F.S
 bz:w.heap.size+3<=F.B/\F.B<=N
theorem FW.s (h:FW F N k X vln vsm vw w D L1 L2 Y):Y.rangeAt D 0 (machL X F.S)/\Y.rangeAt (D+1) 0 [vln,vsm,vw]:=⟨h.o1.c,h.o2.c⟩
theorem FW.kept (h:FW F N k X vln vsm vw w D L1 L2 Y) (hb:Below Y.heap.size Y w1):FW F N k X vln vsm vw w D L1 L2 w1 :=
 ⟨h.toRR.kept hb,h.o1.kept hb,h.o2.kept hb,⟨h.told.sl.kept hb,h.told.fit,zaA h.told.ln (λj e=>hb.block j (zaJ h.told.ln j e).2.1),zaA h.told.sm (λj e=>hb.block j (zaJ h.told.sm j e).2.1),zaA h.told.ws (λj e=>hb.block j (zaJ h.told.ws j e).2.1)⟩,h.dz,h.new,h.bz⟩
theorem Told.far {b o:Nat} {vs:List Value} (h:Told F N k vln vsm vw Y) (hn:SlNew F.B F.S) (hb:b<F.B) (hN:F.B<=N):Told F N k vln vsm vw (Y.setCells b o vs) :=
 ⟨h.sl.off hn hb o vs,h.fit,zaA h.ln (λj e=>zag (by have:=(zaJ h.ln j e).1;omega) _ _ _),zaA h.sm (λj e=>zag (by have:=(zaJ h.sm j e).1;omega) _ _ _),zaA h.ws (λj e=>zag (by have:=(zaJ h.ws j e).1;omega) _ _ _)⟩
theorem FW.put1 (h:FW F N k X vln vsm vw w D (machL zeroM nilS) L2 Y):FW F N k X vln vsm vw w D (machL X F.S) L2 (Y.setCells (w.heap.size+1) 0 (machL X F.S)):=by
 obtain ⟨z1,z2⟩:=h.bz
 have z3:=h.dz
 have hx:=h.b1.puts 0 (machL X F.S) (by rw [zah,zah];omega)
 rw [zau _ _ (by rw [zah,zah])] at hx
 exact ⟨⟨zaG h.low (by omega) _ _,hx,DW.bb h.b2 (by omega)⟩,DW.bb h.o1 (by omega),DW.bb h.o2 (by omega),h.told.far h.new (by omega) z2,h.dz,h.new,h.bz⟩
theorem FW.put2 {x y z:Value} (h:FW F N k X vln vsm vw w D L1 [x,y,z] Y):FW F N k X vln vsm vw w D L1 [vln,vsm,vw] (Y.setCells (w.heap.size+2) 0 [vln,vsm,vw]):=by
 obtain ⟨z1,z2⟩:=h.bz
 have z3:=h.dz
 have hx:=h.b2.puts 0 [vln,vsm,vw] (by simp)
 rw [zau _ _ (by simp)] at hx
 exact ⟨⟨zaG h.low (by omega) _ _,DW.bb h.b1 (by omega),hx⟩,DW.bb h.o1 (by omega),DW.bb h.o2 (by omega),h.told.far h.new (by omega) z2,h.dz,h.new,h.bz⟩
structure EW (F : Fx) (N : Nat) (k : Cs) (X : Mach) (vln vsm vw : Value) (w : World) (D : Nat) (L1 L2 : List Value) (Y : World) : Prop extends RR w L1 L2 Y where
 o1:Bx Y D (machL X F.S)
 o2:Bx Y (D+1) L2
 old:∃ w2:World,w2.heap.size=D/\Told F N k vln vsm vw w2/\Below w2.heap.size w2 Y
 dz:w.heap.size+3<=D
theorem Told.kept (h:Told F N k vln vsm vw Y) (hb:Below Y.heap.size Y w1):Told F N k vln vsm vw w1:=⟨h.sl.kept hb,h.fit,zaA h.ln (λj e=>hb.block j (zaJ h.ln j e).2.1),zaA h.sm (λj e=>hb.block j (zaJ h.sm j e).2.1),zaA h.ws (λj e=>hb.block j (zaJ h.ws j e).2.1)⟩
theorem EW.mk' {w2:World} (hR:RR w (machL zeroM nilS) [.slice none 0 0,.slice none 0 0,.slice none 0 0] w2) (hT:Told F N k vln vsm vw w2):EW F N k X vln vsm vw w w2.heap.size (machL zeroM nilS) [.slice none 0 0,.slice none 0 0,.slice none 0 0] (((w2.alloc (.cells (machL zeroM nilS).toArray 41)).alloc (.cells #[.slice none 0 0,.slice none 0 0,.slice none 0 0] 50)).setCells w2.heap.size 0 (machL X F.S)):=by
 have hb:Below w2.heap.size w2 (((w2.alloc (.cells (machL zeroM nilS).toArray 41)).alloc (.cells #[.slice none 0 0,.slice none 0 0,.slice none 0 0] 50)).setCells w2.heap.size 0 (machL X F.S)):=Bl.puts (stA (stA (st0 w2) _) _) (Nat.le_refl _) _
 have hx:=((Bx.new w2 (machL zeroM nilS) 41 (b:=w2.heap.size) rfl).over (.cells #[.slice none 0 0,.slice none 0 0,.slice none 0 0] 50)).puts 0 (machL X F.S) (by rw [zah,zah];omega)
 rw [zau _ _ (by rw [zah,zah])] at hx
 have hz:=hR.b2.z
 exact ⟨hR.kept hb,hx,DW.bb (Bx.new (w2.alloc (.cells (machL zeroM nilS).toArray 41)) [.slice none 0 0,.slice none 0 0,.slice none 0 0] 50 (b:=w2.heap.size+1) (by simp)) (by omega),⟨w2,rfl,hT,hb⟩,by omega⟩
theorem EW.fw (h:EW F N k X vln vsm vw w D (machL zeroM nilS) [.slice none 0 0,.slice none 0 0,.slice none 0 0] Y) (hn:SlNew F.B F.S) (hz:w.heap.size+3<=F.B/\F.B<=N):FW F N k X vln vsm vw w D (machL zeroM nilS) [.slice none 0 0,.slice none 0 0,.slice none 0 0] (Y.setCells (D+1) 0 [vln,vsm,vw]):=by
 obtain ⟨w2,rfl,hT,hb⟩:=h.old
 obtain ⟨z1,z2⟩:=hz
 have z3:=h.dz
 have hx:=h.o2.puts 0 [vln,vsm,vw] (by simp)
 rw [zau _ _ (by simp)] at hx
 have hb':Below w2.heap.size w2 (Y.setCells (w2.heap.size+1) 0 [vln,vsm,vw]):=zaG hb (by omega) _ _
 exact ⟨⟨zaG h.low (by omega) _ _,DW.bb h.b1 (by omega),DW.bb h.b2 (by omega)⟩,DW.bb h.o1 (by omega),hx,hT.kept hb',h.dz,hn,⟨z1,z2⟩⟩
end
/-! ### what no processor touches: where the beam is, when the next sample comes -/
structure Mach.alike (M M' : Mach) : Prop where
 l:M'.b.l=M.b.l
 a:M'.b.a=M.b.a
 f:M'.b.f=M.b.f
 w:M'.s.w=M.s.w
theorem alike_refl (M:Mach):M.alike M:=⟨rfl,rfl,rfl,rfl⟩
theorem Mach.alike.trans {M M' M'':Mach} (h:M.alike M') (k:M'.alike M''):M.alike M'':=⟨k.l.trans h.l,k.a.trans h.a,k.f.trans h.f,k.w.trans h.w⟩
theorem zeB (M:Mach):∀ k,M.alike (M.xfer k)
 | 0=>alike_refl M
 | k+1=>(zeB M k).trans ⟨rfl,rfl,rfl,rfl⟩
theorem zki (M:Mach) (a:Int):M.alike (M.rdM a).2:=by
 unfold Mach.rdM
 split
 ·unfold Mach.portM
  split <;> exact ⟨rfl,rfl,rfl,rfl⟩
 ·exact alike_refl M
theorem zkj (M:Mach) (a:Int):M.alike (M.rdA a).2:=by
 unfold Mach.rdA
 split
 ·unfold Mach.portA
  split <;> exact ⟨rfl,rfl,rfl,rfl⟩
 ·exact alike_refl M
theorem zgA (M:Mach) (n:Int):M.alike (M.letGo n):=by
 unfold Mach.letGo
 split <;> exact ⟨rfl,rfl,rfl,rfl⟩
theorem zkk (M:Mach) (a n:Int):M.alike (M.wrM a n):=by
 unfold Mach.wrM
 split
 ·unfold Mach.putM
  split
  all_goals first
   | exact ⟨rfl,rfl,rfl,rfl⟩
   | exact zeB _ _
   | exact zgA _ _
 ·unfold Mach.memM
  split
  ·exact alike_refl M
  ·split
   ·exact ⟨rfl,rfl,rfl,rfl⟩
   ·split <;> exact ⟨rfl,rfl,rfl,rfl⟩
theorem zpg (s:Sd) (p:Nat) (n:Int):(s.put p n).w=s.w:=by
 unfold Sd.put
 split
 ·rfl
 ·split <;> rfl
theorem zkl (M:Mach) (a n:Int):M.alike (M.wrA a n):=by
 unfold Mach.wrA
 split
 ·unfold Mach.putA
  split
  ·exact ⟨rfl,rfl,rfl,zpg _ _ _⟩
  ·split <;> exact ⟨rfl,rfl,rfl,rfl⟩
 ·unfold Mach.memA
  split
  ·exact alike_refl M
  ·split
   ·exact ⟨rfl,rfl,rfl,rfl⟩
   ·split
    ·split <;> exact ⟨rfl,rfl,rfl,rfl⟩
    ·exact alike_refl M
theorem zeb (s:Bst):s.M.alike s.stepMain.M:=by
 unfold Bst.stepMain
 split
 ·exact alike_refl _
 ·have h:=C.keeps_step (m:=mainMem) (P:=λx=>s.M.alike x.M) (λx a h=>h.trans (zki x.M a)) (λx a b h=>h.trans (zkk x.M a _)) s.M.main ⟨s.M,0,s.l⟩ (s.M.t.g || s.M.b.g) (alike_refl _)
  exact ⟨h.l,h.a,h.f,h.w⟩
theorem zfo (s:Bst):s.M.alike s.stepAux.M:=by
 unfold Bst.stepAux
 split
 ·exact alike_refl _
 ·have h:=C.keeps_step (m:=auxMem) (P:=λx=>s.M.alike x.M) (λx a h=>h.trans (zkj x.M a)) (λx a b h=>h.trans (zkl x.M a _)) s.M.aux s s.M.rung (alike_refl _)
  exact ⟨h.l,h.a,h.f,h.w⟩
theorem zgB (M:Mach) (x:Inp):M.alike (M.press x):=by
 unfold Mach.press
 split <;> exact ⟨rfl,rfl,rfl,rfl⟩
theorem zcx:∀ (l:List Inp) (M:Mach),M.alike (M.pressed l)
 | [],M=>alike_refl M
 | x::l,M=>by
  unfold Mach.pressed
  split
  ·exact (zgB M x).trans (zcx l _)
  ·exact alike_refl M
theorem zf5 (k:Cs):k.s.M.alike k.now.s.M :=
 (zcx k.co k.s.M).trans ((zeb ⟨k.s.M.pressed k.co,k.s.n,k.s.l⟩).trans (zfo _))
structure Cs.runs (k0 k : Cs) (j : Nat) : Prop where
 l:k.s.M.b.l=bmL k0.s.M.b.l k0.s.M.b.a j
 a:k.s.M.b.a=bmA k0.s.M.b.l k0.s.M.b.a j
 f:k.s.M.b.f=bmF k0.s.M.b.l k0.s.M.b.a k0.s.M.b.f j
 w:k.s.M.s.w=(k0.s.M.s.ticks j).w
theorem znO {s s':Sd} (h:s.w=s'.w):(s.ticks 1).w=(s'.ticks 1).w:=by
 show (if s.w=0 then 15 else s.w-1)=(if s'.w=0 then 15 else s'.w-1)
 rw [h]
theorem zbN (k0:Cs) (hb:BOk k0.s.M.b.l k0.s.M.b.a k0.s.M.b.f) (hf:k0.s.M.b.f<=19900):∀ j:Nat,j<=20000->Cs.runs k0 (k0.clocks j) j
 | 0,_=>by
  have:=zie k0.s.M.b.l k0.s.M.b.a k0.s.M.b.f false ⟨hb.l0,hb.l1⟩ ⟨hb.a0,hb.a1⟩
  exact ⟨this.1.symm,this.2.1.symm,this.2.2.2.symm,rfl⟩
 | j+1,hj=>by
  have ih:=zbN k0 hb hf j (by omega)
  obtain ⟨k,hk⟩:∃ k,k=k0.clocks j:=⟨_,rfl⟩
  have e:k0.clocks (j+1)=k.clock:=by rw [hk];rfl
  rw [<- hk] at ih
  rw [e]
  have hn:=zf5 k
  have l0:=hb.l0;have l1:=hb.l1;have a0:=hb.a0;have a1:=hb.a1;have f0:=hb.f0
  have e1:k.now.s.M.b.l=bmL k0.s.M.b.l k0.s.M.b.a j:=hn.l.trans ih.l
  have e2:k.now.s.M.b.a=bmA k0.s.M.b.l k0.s.M.b.a j:=hn.a.trans ih.a
  have e3:k.now.s.M.b.f=bmF k0.s.M.b.l k0.s.M.b.a k0.s.M.b.f j:=hn.f.trans ih.f
  have hbd:=bm_bd k0.s.M.b.l k0.s.M.b.a j ⟨l0,l1⟩ ⟨a0,a1⟩ (by omega)
  have hF:0<=bmF k0.s.M.b.l k0.s.M.b.a k0.s.M.b.f j/\bmF k0.s.M.b.l k0.s.M.b.a k0.s.M.b.f j<=20000:=by unfold bmF;omega
  have hok:bok k.now.s.M.b.l k.now.s.M.b.a k.now.s.M.b.f=true:=by
   rw [e1,e2,e3]
   exact (zax _ _ _).2 ⟨hbd.1.1,hbd.1.2,hbd.2.1,hbd.2.2,hF.1,hF.2⟩
  have hadd:=zmt k0.s.M.b.l k0.s.M.b.a k0.s.M.b.f j 1 false ⟨l0,l1⟩ ⟨a0,a1⟩ (by omega) (by omega)
  have ho:k.clock.s.M.b=⟨bmL k.now.s.M.b.l k.now.s.M.b.a 1,bmA k.now.s.M.b.l k.now.s.M.b.a 1,bmG k.now.s.M.b.l k.now.s.M.b.a k.now.s.M.b.g 1,bmF k.now.s.M.b.l k.now.s.M.b.a k.now.s.M.b.f 1⟩:=by
   show k.now.s.M.b.one=_
   unfold Bem.one
   rw [if_pos hok]
  refine ⟨?_,?_,?_,?_⟩
  ·rw [ho];show bmL k.now.s.M.b.l k.now.s.M.b.a 1=_
   rw [e1,e2,hadd.1];push_cast;rfl
  ·rw [ho];show bmA k.now.s.M.b.l k.now.s.M.b.a 1=_
   rw [e1,e2,hadd.2.1];push_cast;rfl
  ·rw [ho];show bmF k.now.s.M.b.l k.now.s.M.b.a k.now.s.M.b.f 1=_
   rw [e1,e2,e3,hadd.2.2.2];push_cast;rfl
  ·show (k.now.s.M.s.ticks 1).w=_
   rw [znO (s:=k.now.s.M.s) (s':=k0.s.M.s.ticks j) (hn.w.trans ih.w),Sd.ticks_add]
theorem zdC (k0:Cs) (hb:BOk k0.s.M.b.l k0.s.M.b.a k0.s.M.b.f) (hf:k0.s.M.b.f<=19000) (j:Nat) (hj:j<=20000):Cs.runs k0 (k0.clocks j) j:=zbN k0 hb (by omega) j hj
/-! ### how many samples -/
/-! ### which lines -/
/-! ### who is held, and waits -/
end Go.Proofs.YtbennamieealbaaGreatDoor
namespace Go.Proofs.YtbennamieealbaaGreatDoor.S
abbrev By:=List UInt8
def sgn (p:Nat):UInt8:=[100,115,119,110].getD p 0
def parts (k:Nat):List Nat:=(List.range 4).filter (λp=>O.hasC k (sgn p))
structure Ord where
 d:Int
 s:Int
 n:Int
 w:Int
def Ord.set (o:Ord) (p:Nat) (v:Int):Ord:=if p=0 then { o with d:=v } else if p=1 then { o with s:=v } else if p=2 then { o with w:=v } else { o with n:=v }
/-! ### a program's listing -/
/-! ### what is built of a text -/
structure St where
 rom:By
 places:List (By × Nat)
 uses:List (By × Nat × Nat)
end Go.Proofs.YtbennamieealbaaGreatDoor.S
namespace Go.Proofs.YtbennamieealbaaGreatDoor
open Go.ChangeShapes Go.WideShapes Go.ChangeAt Go.RowKit
def bs (s:ByteArray):List UInt8:=s.data.toList
theorem zha (v:Value):v.ownBlock=none \/ v.ownBlock≠none:=by cases v.ownBlock with
 | none=>exact Or.inl rfl
 | some g=>exact Or.inr (by simp)
theorem zb4 {w w':World} (h:Below w.heap.size w w'):w.grownBy w' none:=⟨h.os,h.tape,h.output,h.size,λk hk _=>h.block k hk⟩
structure AF (w : World) : Prop where
 pow:Lib.TabIs Tryz.prog w "internal/strconv.uint64pow10" .u64 Lib.pow10Tab
 len:∃ m,w.cell? ⟨0,0,none⟩=some (.int .i64 m)
 shapes:shapesAt w
theorem g_pow:Tryz.prog.globalNamed "internal/strconv.uint64pow10" = some 8:=by kernel_rfl
theorem AF.kept {w w':World} (h:AF w) (hb:Below w.heap.size w w'):AF w':=by
 obtain ⟨t,⟨m,hm⟩,s⟩:=h
 exact ⟨Joins.tab_stays g_pow t hb (Nat.le_refl _),⟨m,(hb.cell (World.block_lt_of_cell? w _ hm)).trans hm⟩,s.kept hb⟩
def Asmk (l:List UInt8):ByteArray:=⟨l.toArray⟩
def offP (p:Nat):Nat:=if p=0 then 1 else if p=1 then 2 else if p=2 then 4 else 3
def ordCells (k:Nat) (o:S.Ord):Array Value:=#[.int .i64 k,.int .i64 o.d,.int .i64 o.s,.int .i64 o.n,.int .i64 o.w]
end Go.Proofs.YtbennamieealbaaGreatDoor
namespace Go.Proofs.YtbennamieealbaaGreatDoor
open Go.ChangeShapes Go.WideShapes Go.ChangeAt Go.RowKit
def partsAt (w:World) (g k:Nat):Prop:=∀ j p:Nat,(S.parts k)[j]? = some p->w.cell? ⟨g,j,none⟩=some (.int .i64 p)
theorem partsAt.kept {w w':World} {g k B:Nat} (h:partsAt w g k) (hb:Below B w w') (hB:g<B):partsAt w' g k:=λj p hj=>(hb.cell hB).trans (h j p hj)
def AsbytesAt (w:World) (g o:Nat) (l:List UInt8):Prop:=∀ (j:Nat) (c:UInt8),l[j]? = some c->w.cell? ⟨g,o+j,none⟩=some (.int .u8 c.toNat)
theorem AsbytesAt.kept {w w':World} {g o B:Nat} {l:List UInt8} (h:AsbytesAt w g o l) (hb:Below B w w') (hB:g<B):AsbytesAt w' g o l:=λj c hj=>(hb.cell hB).trans (h j c hj)
end Go.Proofs.YtbennamieealbaaGreatDoor
namespace Go.Proofs.YtbennamieealbaaGreatDoor
open Go.ChangeShapes Go.WideShapes Go.ChangeAt Go.RowKit
def AssliceAt (w:World) (v:Value) (l:List UInt8):Prop:=(∃ a cap,v = .slice a 0 cap/\l=[]) \/ ∃ g o cap,v = .slice (some ⟨g,o,none⟩) l.length cap/\l.length<=cap/\g<w.heap.size/\AsbytesAt w g o l
theorem AssliceAt.kept {w w':World} {v:Value} {l:List UInt8} (h:AssliceAt w v l) (hb:Below w.heap.size w w'):AssliceAt w' v l:=by
 rcases h with h|⟨g,o,cap,h1,h2,h3,h4⟩
 ·exact Or.inl h
 ·exact Or.inr ⟨g,o,cap,h1,h2,Nat.lt_of_lt_of_le h3 hb.size,h4.kept hb h3⟩
def mapS (w:World) (b:Nat) (l:List (ByteArray × Int)):Prop :=
 ∃ es clock,w.heap[b]? = some (.map es clock)/\es.toList.map (λe=>(e.key,e.val))=l.map (λp=>(Value.string p.1,Value.int .i64 p.2))
theorem mapS.lt {w:World} {b:Nat} {l:List (ByteArray × Int)} (h:mapS w b l):b<w.heap.size:=by
 obtain ⟨es,c,hb,_⟩:=h
 exact (Array.getElem?_eq_some_iff.1 hb).1
theorem mapS.of_block {w w':World} {b:Nat} {l:List (ByteArray × Int)} (h:mapS w b l) (e:w'.heap[b]? = w.heap[b]?):mapS w' b l:=by
 obtain ⟨es,c,hb,hm⟩:=h
 exact ⟨es,c,e.trans hb,hm⟩
theorem mapS.below {w w':World} {b B:Nat} {l:List (ByteArray × Int)} (h:mapS w b l) (hb:Below B w w') (hB:b<B):mapS w' b l:=h.of_block (hb.block b hB)
/-! ### the orders by their names -/
def opsTo (j:Nat):List (ByteArray × Int):=((List.range j).filter (λk=>k != 30)).map (λk=>(O.nameS k,(k:Int)))
/-! ### the reader -/
def pl (l:List (S.By × Nat)):List (ByteArray × Int):=l.map (λp=>(Asmk p.1,(p.2:Int)))
def useCells:List (S.By × Nat × Nat)->List Value
 | []=>[]
 | u::us=>[.string (Asmk u.1),.int .i64 u.2.1,.int .i64 u.2.2]++useCells us
structure Rd (w : World) (B b mo mp : Nat) (ua : Option Addr) (uc : Nat) (ra : Option Addr) (rc : Nat) (st : S.St) (ln : Nat) : Prop where
 hB:B<=b
 blk:w.heap[b]? = some (.cells #[.map (some mo),.map (some mp),.slice ua st.uses.length uc,.slice ra st.rom.length rc,.int .i64 ln] 178 (0,0))
 ops:mapS w mo (opsTo 32)
 places:mapS w mp (pl st.places)
 hmp:B<=mp
 ne:mo≠mp
 uses:w.ownsRow B 254 3 (.slice ua st.uses.length uc) st.uses.length (useCells st.uses)
 rom:w.ownsRow B 5 1 (.slice ra st.rom.length rc) st.rom.length (Lib.byteCells st.rom)
section
variable {w w' : World} {B b mo mp : Nat} {ua ra : Option Addr} {uc rc : Nat} {st : S.St} {ln : Nat}
theorem Rd.lt (h:Rd w B b mo mp ua uc ra rc st ln):b<w.heap.size:=(Array.getElem?_eq_some_iff.1 h.blk).1
theorem Rd.cell (h:Rd w B b mo mp ua uc ra rc st ln) (i:Nat):w.cell? ⟨b,i,none⟩=(#[.map (some mo),.map (some mp),.slice ua st.uses.length uc,.slice ra st.rom.length rc,.int .i64 ln]:Array Value)[i]?:=Lib.cell_of_heap h.blk i
theorem Rd.frozen (h:Rd w B b mo mp ua uc ra rc st ln) (i:Nat):w.frozen? ⟨b,i,none⟩=false:=Lib.frozen_of_heap h.blk i
theorem Rd.kept (h:Rd w B b mo mp ua uc ra rc st ln) (hb:Below w.heap.size w w'):Rd w' B b mo mp ua uc ra rc st ln :=
 ⟨h.hB,(hb.block b h.lt).trans h.blk,h.ops.below hb h.ops.lt,h.places.below hb h.places.lt,h.hmp,h.ne,h.uses.kept (zb4 hb) (zha _),h.rom.kept (zb4 hb) (zha _)⟩
theorem zfp {w:World} {b i:Nat} {cs:Array Value} {t:TypeId} {fr:Nat × Nat} (h:w.heap[b]? = some (.cells cs t fr)) (v:Value):(w.setCell ⟨b,i,none⟩ v).heap[b]? = some (.cells (cs.setIfInBounds i v) t fr):=by
 simp [World.setCell,Array.getElem?_modify,h]
end
theorem wordsAt.block {w w':World} {g:Nat} {l:List Int} (h:wordsAt w g l) (e:w'.heap[g]? = w.heap[g]?):wordsAt w' g l:=λi hi=>(World.cell?_of_block (w:=w) e).trans (h i hi)
section
variable {w w1 : World} {B b mo mp : Nat} {ua ra : Option Addr} {uc rc : Nat} {st : S.St} {ln : Nat}
end
def strsAt (w:World) (g:Nat) (ps:List S.By):Prop:=∀ (j:Nat) (s:S.By),ps[j]? = some s->w.cell? ⟨g,j,none⟩=some (.string (Asmk s))
theorem strsAt.kept {w w':World} {g B:Nat} {ps:List S.By} (h:strsAt w g ps) (hb:Below B w w') (hB:g<B):strsAt w' g ps:=λj s hj=>(hb.cell hB).trans (h j s hj)
theorem znP (k:Nat) (o:S.Ord) (p:Nat) (hp:p<4) (v:Int):(ordCells k o).setIfInBounds (offP p) (.int .i64 v)=ordCells k (o.set p v):=by
 have hc:p=0 \/ p=1 \/ p=2 \/ p=3:=by omega
 rcases hc with rfl|rfl|rfl|rfl <;> rfl
def ordAt (w:World) (g k:Nat) (o:S.Ord):Prop:=w.heap[g]? = some (.cells (ordCells k o) 225 (0,0))
theorem ordAt.kept {w w':World} {g k:Nat} {o:S.Ord} (h:ordAt w g k o) (hb:Below w.heap.size w w'):ordAt w' g k o:=(hb.block g (Array.getElem?_eq_some_iff.1 h).1).trans h
theorem ordAt.lt {w:World} {g k:Nat} {o:S.Ord} (h:ordAt w g k o):g<w.heap.size:=(Array.getElem?_eq_some_iff.1 h).1
theorem ordAt.frozen {w:World} {g k:Nat} {o:S.Ord} (h:ordAt w g k o) (i:Nat):w.frozen? ⟨g,i,none⟩=false:=Lib.frozen_of_heap h i
theorem ordAt.cell {w:World} {g k:Nat} {o:S.Ord} (h:ordAt w g k o) (i:Nat):w.cell? ⟨g,i,none⟩=(ordCells k o)[i]?:=Lib.cell_of_heap h i
theorem ordAt.set {w:World} {g k:Nat} {o:S.Ord} (h:ordAt w g k o) (p:Nat) (hp:p<4) (v:Int):ordAt (w.setCell ⟨g,offP p,none⟩ (.int .i64 v)) g k (o.set p v):=by
 unfold ordAt
 rw [zfp h,znP k o p hp v]
/-! ### what holds of what a reader has read -/
def Inv (st:S.St):Prop:=st.rom.length<=1024/\(∀ u∈st.uses,u.2.1+2<=st.rom.length) /\ ∀ p∈st.places,p.2<=1024
section
variable {w : World} {B b mo mp : Nat} {ua : Option Addr} {uc rc rg : Nat} {st : S.St} {ln : Nat}
end
theorem zgC {w:World} {B z n:Nat} {t:TypeId} {v:Value} {xs:List Value} (h:w.ownsRow B t z v n xs):∃ a c,v = .slice a n c:=by
 rcases h.2 with ⟨e0,e1⟩|⟨g,cap,cur,e0,_⟩
 ·exact ⟨none,0,by rw [e0,e1]⟩
 ·exact ⟨_,_,e0⟩
theorem zfq {W:World} {S:Sl} {M:Mach} (h:SlAt W S M):S.isSl:=λj hj=>by
 obtain ⟨a,c,e⟩:=zaF (h j hj)
 exact ⟨_,_,_,e⟩
structure LE (w : World) (b c : Nat) (M : Mach) (S : Sl) (L : List Value) (Y : World) : Prop where
 low:Below w.heap.size w Y
 bx:Bx Y b (machL M S)
 sh:Bx Y c L
theorem LE.put {w Y:World} {b c:Nat} {X:Mach} {S':Sl} {x y z x' y' z':Value} (h:LE w b c X S' [x,y,z] Y) (hne:b≠c) (hge:w.heap.size<=c):LE w b c X S' [x',y',z'] (Y.setCells c 0 [x',y',z']):=by
 have h1:=h.sh.puts 0 [x',y',z'] (by simp)
 rw [zau _ _ (by simp)] at h1
 exact ⟨zaG h.low hge _ _,DW.bb h.bx hne,h1⟩
abbrev nil3:List Value:=[.slice none 0 0,.slice none 0 0,.slice none 0 0]
structure R3 (w1 : World) (X : Mach) (S' : Sl) (L : List Value) (Y : World) : Prop where
 old:Below w1.heap.size w1 Y
 x:Bx Y w1.heap.size (machL X S')
 s:Bx Y (w1.heap.size+1) L
section
variable {w1 Y Y' : World} {X : Mach} {S' : Sl} {L : List Value}
theorem R3.mk1 (w1:World) (X:Mach) (S':Sl):R3 w1 X S' nil3 (((w1.alloc (.cells (machL zeroM nilS).toArray 41)).alloc (.cells #[.slice none 0 0,.slice none 0 0,.slice none 0 0] 50)).setCells w1.heap.size 0 (machL X S')):=by
 have h1:=((Bx.new w1 (machL zeroM nilS) 41 (b:=w1.heap.size) rfl).over (.cells #[.slice none 0 0,.slice none 0 0,.slice none 0 0] 50)).puts 0 (machL X S') (by rw [zah,zah];omega)
 rw [zau _ _ (by rw [zah,zah])] at h1
 exact ⟨zaG (stA (stA (st0 w1) _) _) (Nat.le_refl _) _ _,h1,DW.bb (Bx.new (w1.alloc (.cells (machL zeroM nilS).toArray 41)) nil3 50 (b:=w1.heap.size+1) (by simp)) (by omega)⟩
theorem R3.put {x y z x' y' z':Value} (h:R3 w1 X S' [x,y,z] Y):R3 w1 X S' [x',y',z'] (Y.setCells (w1.heap.size+1) 0 [x',y',z']):=by
 have h1:=h.s.puts 0 [x',y',z'] (by simp)
 rw [zau _ _ (by simp)] at h1
 exact ⟨zaG h.old (by omega) _ _,DW.bb h.x (by omega),h1⟩
theorem R3.kept (h:R3 w1 X S' L Y) (hb:Below Y.heap.size Y Y'):R3 w1 X S' L Y':=⟨stp h.old hb,h.x.kept hb,h.s.kept hb⟩
end
theorem R3.th1 (w1:World):((w1.alloc (.cells (machL zeroM nilS).toArray 41)).alloc (.cells #[.slice none 0 0,.slice none 0 0,.slice none 0 0] 50)).there w1.heap.size 0 75:=((Bx.new w1 (machL zeroM nilS) 41 (b:=w1.heap.size) rfl).over _).there 0 75 (by rw [zah];omega)
theorem one3 (a1 a2 a3:Option Addr) (n1 n2 n3 c1 c2 c3:Nat):(#[.slice a1 n1 c1,.slice a2 n2 c2,.slice a3 n3 c3]:Array Value).all (·.oneCell')=true:=by simp [Value.oneCell']
theorem zdD (M:Mach) (S:Sl) (n:Int) (w:World):Calls Tryz.prog 9 #[.agg (machL M S).toArray,.int .i64 n] w λe w'=>e = .returned (.bool (decide (19000<M.b.f)))/\Below w.heap.size w w':=by
 have hB:=Bx.new w (machL M S) 41 (b:=w.heap.size) rfl
 have x64:=hB.at 64 (.int .i64 M.b.f) rfl
 clear hB
 go_enter Tryz.func9,Tryz.ntmps9
 go_wp2
 go_ret
 exact ⟨rfl,stA (st0 w) _⟩
end Go.Proofs.YtbennamieealbaaGreatDoor
