/-
  Parts of a proof, joined.
-/
import Derived.Test.YtbhpfkjfijdmaaaGreatDoorZy00
import Derived.WalkKit
import Derived.ProofKit
import Derived.OpenShut
import Derived.WalkSpells
import Derived.Outline
import Derived.Laws.EntriesVeiled
import Derived.Test.YtbhpfkjfijdmaaaGreatDoorChecked
import GoSem.PinnedTables
import GoSem.Claim
import GoSem.ClaimJoined
import GoSem.ClaimMapViews
import Derived.JoinedTies
import Derived.KernelRfl
import Derived.Deep.RegionHeld3
namespace Go.Proofs.YtbhpfkjfijdmaaaGreatDoor
open Go.ChangeShapes Go.WideShapes Go.ChangeAt Go.RowKit
set_option linter.unusedVariables false
set_option maxRecDepth 100000
set_option maxHeartbeats 1600000
theorem hid {p:Prop} (h:p):Hid p:=h
theorem ret_b {b b':Bool} (h:b=b'):Ending.returned (.bool b) = .returned (.bool b'):=by rw [h]
theorem stp {W a b:World} (h:Below W.heap.size W a) (hb:Below a.heap.size a b):Below W.heap.size W b:=h.trans (hb.mono h.size)
theorem stA {W a:World} (h:Below W.heap.size W a) (o:Obj):Below W.heap.size W (a.alloc o):=h.alloc h.size o
theorem st0 (W:World):Below W.heap.size W W:=Below.refl _ _
theorem bcell {W w1:World} (hb:Below W.heap.size W w1):(∀ b o,b < W.heap.size->w1.cell? ⟨b,o,none⟩=W.cell? ⟨b,o,none⟩)/\(∀ b o,b < W.heap.size->w1.frozen? ⟨b,o,none⟩=W.frozen? ⟨b,o,none⟩) :=
 ⟨fun b o h=>hb.cell (p:=⟨b,o,none⟩) h,fun b o h=>hb.frozen (p:=⟨b,o,none⟩) h⟩
theorem shape_yes (k:Nat) (hk:k < 32) (h30:k ≠ 30) (w:World) (hs:shapesAt w) :
 Calls Tryz.prog 155 #[.int .i64 k] w fun e w'=>e = .returned (.tuple #[.agg #[.string (O.nameS k),.int .i64 (K.cyc k),.int .i64 (O.mask k)],.int .i64 0])/\Below w.heap.size w w':=by
 have hl:=hs.lt
 obtain ⟨c0,c1,c2⟩:=hs k hk
 have hn:(O.nameS k).toList.isEmpty=false:=(O.nameS_empty k hk).trans (by simpa using h30)
 clear hs
 go_enter Tryz.func155,Tryz.ntmps155
 go_wp2
 exact bodyPost_ret (v:=.tuple #[.agg #[.string (O.nameS k),.int .i64 (K.cyc k),.int .i64 (O.mask k)],.int .i64 0]) (by simp [results,Tryz.results155,go_sem]) rfl ⟨rfl,(Below.refl _ _).alloc (Nat.le_refl _) _⟩
theorem shape_no (op:Int) (h:O.isOp op=false) (w:World) (hs:shapesAt w) :
 Calls Tryz.prog 155 #[.int .i64 op] w fun e w'=>e = .returned (.tuple #[.agg #[.string ⟨#[]⟩,.int .i64 0,.int .i64 0],.int .i64 5])/\Below w.heap.size w w':=by
 have hl:=hs.lt
 have h':¬ (0<=op/\op<=31/\op ≠ 30):=fun c=>by rw [(O.isOp_iff op).2 c] at h;cases h
 obtain ⟨c0,c1,c2⟩:=hs 30 (by omega)
 clear hs h
 have e30:O.nameS 30=⟨#[]⟩:=rfl
 rw [e30] at c0
 clear e30
 have hc:op < 0 \/ 31 < op \/ op=30:=by omega
 clear h'
 rcases hc with h | h | rfl
 ·go_enter Tryz.func155,Tryz.ntmps155
  go_wp2
  exact bodyPost_ret (v:=.tuple #[.agg #[.string ⟨#[]⟩,.int .i64 0,.int .i64 0],.int .i64 5]) (by simp [results,Tryz.results155,go_sem]) rfl ⟨rfl,(Below.refl _ _).alloc (Nat.le_refl _) _⟩
 ·have h2:¬ op < 0:=by omega
  go_enter Tryz.func155,Tryz.ntmps155
  go_wp2
  exact bodyPost_ret (v:=.tuple #[.agg #[.string ⟨#[]⟩,.int .i64 0,.int .i64 0],.int .i64 5]) (by simp [results,Tryz.results155,go_sem]) rfl ⟨rfl,(Below.refl _ _).alloc (Nat.le_refl _) _⟩
 ·go_enter Tryz.func155,Tryz.ntmps155
  go_wp2
  exact bodyPost_ret (v:=.tuple #[.agg #[.string ⟨#[]⟩,.int .i64 0,.int .i64 0],.int .i64 5]) (by simp [results,Tryz.results155,go_sem]) rfl ⟨rfl,(Below.refl _ _).alloc (Nat.le_refl _) _⟩
def lenOf (h:Int):Int:=if h / 8 % 2=1 then 2 else 1
theorem words_any (a b:Value) (k:Nat) (hk:k < 32) (w:World) :
 Calls Tryz.prog 206 #[.agg #[a,b,.int .i64 (O.mask k)]] w fun e w'=>e = .returned (.int .i64 (lenOf (O.mask k)))/\Below w.heap.size w w':=by
 rcases O.mask_or k hk with h | h | h | h | h | h | h | h | h <;> rw [h]
 all_goals
  clear h
  go_enter Tryz.func206,Tryz.ntmps206
  go_wp2
  go_ret
  exact ⟨rfl,(Below.refl _ _).alloc (Nat.le_refl _) _⟩
def limV (b:Nat):Value:=.func (.func 290) #[] #[.pointer (some ⟨b,0,none⟩),.pointer (some ⟨b+1,0,none⟩)]
theorem within_any (l u:Int) (w:World) :
 Calls Tryz.prog 280 #[.int .i64 l,.int .i64 u] w fun e w'=>e = .returned (.func (.func 290) #[] #[.pointer (some ⟨w.heap.size,0,none⟩),.pointer (some ⟨w.heap.size+1,0,none⟩)])/\w'=(w.alloc (.cells #[.int .i64 l] 3)).alloc (.cells #[.int .i64 u] 3):=by
 go_enter Tryz.func280,Tryz.ntmps280
 go_wp2
 go_ret
 exact ⟨rfl,rfl⟩
theorem in_any (l u x:Int) (b c:Nat) (w:World) (hl:w.cell? ⟨b,0,none⟩=some (.int .i64 l)) (hu:w.cell? ⟨c,0,none⟩=some (.int .i64 u)) :
 Calls Tryz.prog 290 #[.int .i64 x,.pointer (some ⟨b,0,none⟩),.pointer (some ⟨c,0,none⟩)] w fun e w'=>e = .returned (.bool (O.inR l u x))/\w'=w:=by
 have e:∀ b,(decide (l<=x) && decide (x<=u))=b->Hid (O.inR l u x=b):=fun _ h=>h
 by_cases h1:l<=x <;> by_cases h2:x<=u
 ·have e:=e true (by simp [h1,h2])
  go_enter Tryz.func290,Tryz.ntmps290
  go_wp2
  go_ret
  rw [e.out]
  exact ⟨rfl,rfl⟩
 all_goals
  have e:=e false (by simp;omega)
  go_enter Tryz.func290,Tryz.ntmps290
  go_wp2
  go_ret
  rw [e.out]
  exact ⟨rfl,rfl⟩
theorem cell_new (w:World) (cs:Array Value) (t:TypeId) (b:Nat) (h:b=w.heap.size) {k:Nat}:(w.alloc (.cells cs t)).cell? ⟨b,k,none⟩=cs[k]?:=by subst h;exact World.cell?_alloc_new ..
structure Lims (h : Int) (b0 b1 b2 b3 : Nat) (w : World) : Prop where
 l0:w.cell? ⟨b0,0,none⟩=some (.int .i64 (O.lo h 0))
 u0:w.cell? ⟨b0+1,0,none⟩=some (.int .i64 (O.hi h 0))
 l1:w.cell? ⟨b1,0,none⟩=some (.int .i64 (O.lo h 1))
 u1:w.cell? ⟨b1+1,0,none⟩=some (.int .i64 (O.hi h 1))
 l2:w.cell? ⟨b2,0,none⟩=some (.int .i64 (O.lo h 2))
 u2:w.cell? ⟨b2+1,0,none⟩=some (.int .i64 (O.hi h 2))
 l3:w.cell? ⟨b3,0,none⟩=some (.int .i64 (O.lo h 3))
 u3:w.cell? ⟨b3+1,0,none⟩=some (.int .i64 (O.hi h 3))
theorem limits_0 (a b:Value) (w:World) :
 Calls Tryz.prog 275 #[.agg #[a,b,.int .i64 0]] w fun e w'=>∃ b0 b1 b2 b3,e = .returned (.agg #[limV b0,limV b1,limV b2,limV b3])/\Lims 0 b0 b1 b2 b3 w'/\Below w.heap.size w w':=by
 go_enter Tryz.func275,Tryz.ntmps275
 go_wp2_with (go_at_call 280;refine (within_any _ _ _).mono ?_;rintro e w' ⟨rfl,rfl⟩)
 refine bodyPost_ret (v:=.agg #[.func (.func 290) #[] #[.pointer (some ⟨w.heap.size+1+1,0,none⟩),.pointer (some ⟨w.heap.size+1+1+1,0,none⟩)],.func (.func 290) #[] #[.pointer (some ⟨w.heap.size+1+1,0,none⟩),.pointer (some ⟨w.heap.size+1+1+1,0,none⟩)],.func (.func 290) #[] #[.pointer (some ⟨w.heap.size+1+1,0,none⟩),.pointer (some ⟨w.heap.size+1+1+1,0,none⟩)],.func (.func 290) #[] #[.pointer (some ⟨w.heap.size+1+1,0,none⟩),.pointer (some ⟨w.heap.size+1+1+1,0,none⟩)]]) (by simp [results,Tryz.results275,go_sem]) rfl ⟨w.heap.size+1+1,w.heap.size+1+1,w.heap.size+1+1,w.heap.size+1+1,rfl,⟨?_,?_,?_,?_,?_,?_,?_,?_⟩,?_⟩
 ·iterate 2 (refine (World.cell?_alloc_lt _ _ _ (by simp <;> omega)).trans ?_)
  refine (cell_new _ _ _ _ (by simp)).trans ?_
  rfl
 ·iterate 1 (refine (World.cell?_alloc_lt _ _ _ (by simp <;> omega)).trans ?_)
  refine (cell_new _ _ _ _ (by simp)).trans ?_
  rfl
 ·iterate 2 (refine (World.cell?_alloc_lt _ _ _ (by simp <;> omega)).trans ?_)
  refine (cell_new _ _ _ _ (by simp)).trans ?_
  rfl
 ·iterate 1 (refine (World.cell?_alloc_lt _ _ _ (by simp <;> omega)).trans ?_)
  refine (cell_new _ _ _ _ (by simp)).trans ?_
  rfl
 ·iterate 2 (refine (World.cell?_alloc_lt _ _ _ (by simp <;> omega)).trans ?_)
  refine (cell_new _ _ _ _ (by simp)).trans ?_
  rfl
 ·iterate 1 (refine (World.cell?_alloc_lt _ _ _ (by simp <;> omega)).trans ?_)
  refine (cell_new _ _ _ _ (by simp)).trans ?_
  rfl
 ·iterate 2 (refine (World.cell?_alloc_lt _ _ _ (by simp <;> omega)).trans ?_)
  refine (cell_new _ _ _ _ (by simp)).trans ?_
  rfl
 ·iterate 1 (refine (World.cell?_alloc_lt _ _ _ (by simp <;> omega)).trans ?_)
  refine (cell_new _ _ _ _ (by simp)).trans ?_
  rfl
 ·repeat (first | exact Below.refl _ _ | refine Below.alloc ?_ (by simp <;> omega) _)
theorem limits_1 (a b:Value) (w:World) :
 Calls Tryz.prog 275 #[.agg #[a,b,.int .i64 1]] w fun e w'=>∃ b0 b1 b2 b3,e = .returned (.agg #[limV b0,limV b1,limV b2,limV b3])/\Lims 1 b0 b1 b2 b3 w'/\Below w.heap.size w w':=by
 go_enter Tryz.func275,Tryz.ntmps275
 go_wp2_with (go_at_call 280;refine (within_any _ _ _).mono ?_;rintro e w' ⟨rfl,rfl⟩)
 refine bodyPost_ret (v:=.agg #[.func (.func 290) #[] #[.pointer (some ⟨w.heap.size+1+1+1+1+1,0,none⟩),.pointer (some ⟨w.heap.size+1+1+1+1+1+1,0,none⟩)],.func (.func 290) #[] #[.pointer (some ⟨w.heap.size+1+1,0,none⟩),.pointer (some ⟨w.heap.size+1+1+1,0,none⟩)],.func (.func 290) #[] #[.pointer (some ⟨w.heap.size+1+1,0,none⟩),.pointer (some ⟨w.heap.size+1+1+1,0,none⟩)],.func (.func 290) #[] #[.pointer (some ⟨w.heap.size+1+1,0,none⟩),.pointer (some ⟨w.heap.size+1+1+1,0,none⟩)]]) (by simp [results,Tryz.results275,go_sem]) rfl ⟨w.heap.size+1+1+1+1+1,w.heap.size+1+1,w.heap.size+1+1,w.heap.size+1+1,rfl,⟨?_,?_,?_,?_,?_,?_,?_,?_⟩,?_⟩
 ·iterate 1 (refine (World.cell?_alloc_lt _ _ _ (by simp <;> omega)).trans ?_)
  refine (cell_new _ _ _ _ (by simp)).trans ?_
  rfl
 ·iterate 0 (refine (World.cell?_alloc_lt _ _ _ (by simp <;> omega)).trans ?_)
  refine (cell_new _ _ _ _ (by simp)).trans ?_
  rfl
 ·iterate 4 (refine (World.cell?_alloc_lt _ _ _ (by simp <;> omega)).trans ?_)
  refine (cell_new _ _ _ _ (by simp)).trans ?_
  rfl
 ·iterate 3 (refine (World.cell?_alloc_lt _ _ _ (by simp <;> omega)).trans ?_)
  refine (cell_new _ _ _ _ (by simp)).trans ?_
  rfl
 ·iterate 4 (refine (World.cell?_alloc_lt _ _ _ (by simp <;> omega)).trans ?_)
  refine (cell_new _ _ _ _ (by simp)).trans ?_
  rfl
 ·iterate 3 (refine (World.cell?_alloc_lt _ _ _ (by simp <;> omega)).trans ?_)
  refine (cell_new _ _ _ _ (by simp)).trans ?_
  rfl
 ·iterate 4 (refine (World.cell?_alloc_lt _ _ _ (by simp <;> omega)).trans ?_)
  refine (cell_new _ _ _ _ (by simp)).trans ?_
  rfl
 ·iterate 3 (refine (World.cell?_alloc_lt _ _ _ (by simp <;> omega)).trans ?_)
  refine (cell_new _ _ _ _ (by simp)).trans ?_
  rfl
 ·repeat (first | exact Below.refl _ _ | refine Below.alloc ?_ (by simp <;> omega) _)
theorem limits_2 (a b:Value) (w:World) :
 Calls Tryz.prog 275 #[.agg #[a,b,.int .i64 2]] w fun e w'=>∃ b0 b1 b2 b3,e = .returned (.agg #[limV b0,limV b1,limV b2,limV b3])/\Lims 2 b0 b1 b2 b3 w'/\Below w.heap.size w w':=by
 go_enter Tryz.func275,Tryz.ntmps275
 go_wp2_with (go_at_call 280;refine (within_any _ _ _).mono ?_;rintro e w' ⟨rfl,rfl⟩)
 refine bodyPost_ret (v:=.agg #[.func (.func 290) #[] #[.pointer (some ⟨w.heap.size+1+1,0,none⟩),.pointer (some ⟨w.heap.size+1+1+1,0,none⟩)],.func (.func 290) #[] #[.pointer (some ⟨w.heap.size+1+1+1+1+1,0,none⟩),.pointer (some ⟨w.heap.size+1+1+1+1+1+1,0,none⟩)],.func (.func 290) #[] #[.pointer (some ⟨w.heap.size+1+1,0,none⟩),.pointer (some ⟨w.heap.size+1+1+1,0,none⟩)],.func (.func 290) #[] #[.pointer (some ⟨w.heap.size+1+1,0,none⟩),.pointer (some ⟨w.heap.size+1+1+1,0,none⟩)]]) (by simp [results,Tryz.results275,go_sem]) rfl ⟨w.heap.size+1+1,w.heap.size+1+1+1+1+1,w.heap.size+1+1,w.heap.size+1+1,rfl,⟨?_,?_,?_,?_,?_,?_,?_,?_⟩,?_⟩
 ·iterate 4 (refine (World.cell?_alloc_lt _ _ _ (by simp <;> omega)).trans ?_)
  refine (cell_new _ _ _ _ (by simp)).trans ?_
  rfl
 ·iterate 3 (refine (World.cell?_alloc_lt _ _ _ (by simp <;> omega)).trans ?_)
  refine (cell_new _ _ _ _ (by simp)).trans ?_
  rfl
 ·iterate 1 (refine (World.cell?_alloc_lt _ _ _ (by simp <;> omega)).trans ?_)
  refine (cell_new _ _ _ _ (by simp)).trans ?_
  rfl
 ·iterate 0 (refine (World.cell?_alloc_lt _ _ _ (by simp <;> omega)).trans ?_)
  refine (cell_new _ _ _ _ (by simp)).trans ?_
  rfl
 ·iterate 4 (refine (World.cell?_alloc_lt _ _ _ (by simp <;> omega)).trans ?_)
  refine (cell_new _ _ _ _ (by simp)).trans ?_
  rfl
 ·iterate 3 (refine (World.cell?_alloc_lt _ _ _ (by simp <;> omega)).trans ?_)
  refine (cell_new _ _ _ _ (by simp)).trans ?_
  rfl
 ·iterate 4 (refine (World.cell?_alloc_lt _ _ _ (by simp <;> omega)).trans ?_)
  refine (cell_new _ _ _ _ (by simp)).trans ?_
  rfl
 ·iterate 3 (refine (World.cell?_alloc_lt _ _ _ (by simp <;> omega)).trans ?_)
  refine (cell_new _ _ _ _ (by simp)).trans ?_
  rfl
 ·repeat (first | exact Below.refl _ _ | refine Below.alloc ?_ (by simp <;> omega) _)
theorem limits_3 (a b:Value) (w:World) :
 Calls Tryz.prog 275 #[.agg #[a,b,.int .i64 3]] w fun e w'=>∃ b0 b1 b2 b3,e = .returned (.agg #[limV b0,limV b1,limV b2,limV b3])/\Lims 3 b0 b1 b2 b3 w'/\Below w.heap.size w w':=by
 go_enter Tryz.func275,Tryz.ntmps275
 go_wp2_with (go_at_call 280;refine (within_any _ _ _).mono ?_;rintro e w' ⟨rfl,rfl⟩)
 refine bodyPost_ret (v:=.agg #[.func (.func 290) #[] #[.pointer (some ⟨w.heap.size+1+1+1+1+1,0,none⟩),.pointer (some ⟨w.heap.size+1+1+1+1+1+1,0,none⟩)],.func (.func 290) #[] #[.pointer (some ⟨w.heap.size+1+1+1+1+1+1+1,0,none⟩),.pointer (some ⟨w.heap.size+1+1+1+1+1+1+1+1,0,none⟩)],.func (.func 290) #[] #[.pointer (some ⟨w.heap.size+1+1,0,none⟩),.pointer (some ⟨w.heap.size+1+1+1,0,none⟩)],.func (.func 290) #[] #[.pointer (some ⟨w.heap.size+1+1,0,none⟩),.pointer (some ⟨w.heap.size+1+1+1,0,none⟩)]]) (by simp [results,Tryz.results275,go_sem]) rfl ⟨w.heap.size+1+1+1+1+1,w.heap.size+1+1+1+1+1+1+1,w.heap.size+1+1,w.heap.size+1+1,rfl,⟨?_,?_,?_,?_,?_,?_,?_,?_⟩,?_⟩
 ·iterate 3 (refine (World.cell?_alloc_lt _ _ _ (by simp <;> omega)).trans ?_)
  refine (cell_new _ _ _ _ (by simp)).trans ?_
  rfl
 ·iterate 2 (refine (World.cell?_alloc_lt _ _ _ (by simp <;> omega)).trans ?_)
  refine (cell_new _ _ _ _ (by simp)).trans ?_
  rfl
 ·iterate 1 (refine (World.cell?_alloc_lt _ _ _ (by simp <;> omega)).trans ?_)
  refine (cell_new _ _ _ _ (by simp)).trans ?_
  rfl
 ·iterate 0 (refine (World.cell?_alloc_lt _ _ _ (by simp <;> omega)).trans ?_)
  refine (cell_new _ _ _ _ (by simp)).trans ?_
  rfl
 ·iterate 6 (refine (World.cell?_alloc_lt _ _ _ (by simp <;> omega)).trans ?_)
  refine (cell_new _ _ _ _ (by simp)).trans ?_
  rfl
 ·iterate 5 (refine (World.cell?_alloc_lt _ _ _ (by simp <;> omega)).trans ?_)
  refine (cell_new _ _ _ _ (by simp)).trans ?_
  rfl
 ·iterate 6 (refine (World.cell?_alloc_lt _ _ _ (by simp <;> omega)).trans ?_)
  refine (cell_new _ _ _ _ (by simp)).trans ?_
  rfl
 ·iterate 5 (refine (World.cell?_alloc_lt _ _ _ (by simp <;> omega)).trans ?_)
  refine (cell_new _ _ _ _ (by simp)).trans ?_
  rfl
 ·repeat (first | exact Below.refl _ _ | refine Below.alloc ?_ (by simp <;> omega) _)
theorem limits_5 (a b:Value) (w:World) :
 Calls Tryz.prog 275 #[.agg #[a,b,.int .i64 5]] w fun e w'=>∃ b0 b1 b2 b3,e = .returned (.agg #[limV b0,limV b1,limV b2,limV b3])/\Lims 5 b0 b1 b2 b3 w'/\Below w.heap.size w w':=by
 go_enter Tryz.func275,Tryz.ntmps275
 go_wp2_with (go_at_call 280;refine (within_any _ _ _).mono ?_;rintro e w' ⟨rfl,rfl⟩)
 refine bodyPost_ret (v:=.agg #[.func (.func 290) #[] #[.pointer (some ⟨w.heap.size+1+1+1+1+1,0,none⟩),.pointer (some ⟨w.heap.size+1+1+1+1+1+1,0,none⟩)],.func (.func 290) #[] #[.pointer (some ⟨w.heap.size+1+1,0,none⟩),.pointer (some ⟨w.heap.size+1+1+1,0,none⟩)],.func (.func 290) #[] #[.pointer (some ⟨w.heap.size+1+1+1+1+1+1+1,0,none⟩),.pointer (some ⟨w.heap.size+1+1+1+1+1+1+1+1,0,none⟩)],.func (.func 290) #[] #[.pointer (some ⟨w.heap.size+1+1,0,none⟩),.pointer (some ⟨w.heap.size+1+1+1,0,none⟩)]]) (by simp [results,Tryz.results275,go_sem]) rfl ⟨w.heap.size+1+1+1+1+1,w.heap.size+1+1,w.heap.size+1+1+1+1+1+1+1,w.heap.size+1+1,rfl,⟨?_,?_,?_,?_,?_,?_,?_,?_⟩,?_⟩
 ·iterate 3 (refine (World.cell?_alloc_lt _ _ _ (by simp <;> omega)).trans ?_)
  refine (cell_new _ _ _ _ (by simp)).trans ?_
  rfl
 ·iterate 2 (refine (World.cell?_alloc_lt _ _ _ (by simp <;> omega)).trans ?_)
  refine (cell_new _ _ _ _ (by simp)).trans ?_
  rfl
 ·iterate 6 (refine (World.cell?_alloc_lt _ _ _ (by simp <;> omega)).trans ?_)
  refine (cell_new _ _ _ _ (by simp)).trans ?_
  rfl
 ·iterate 5 (refine (World.cell?_alloc_lt _ _ _ (by simp <;> omega)).trans ?_)
  refine (cell_new _ _ _ _ (by simp)).trans ?_
  rfl
 ·iterate 1 (refine (World.cell?_alloc_lt _ _ _ (by simp <;> omega)).trans ?_)
  refine (cell_new _ _ _ _ (by simp)).trans ?_
  rfl
 ·iterate 0 (refine (World.cell?_alloc_lt _ _ _ (by simp <;> omega)).trans ?_)
  refine (cell_new _ _ _ _ (by simp)).trans ?_
  rfl
 ·iterate 6 (refine (World.cell?_alloc_lt _ _ _ (by simp <;> omega)).trans ?_)
  refine (cell_new _ _ _ _ (by simp)).trans ?_
  rfl
 ·iterate 5 (refine (World.cell?_alloc_lt _ _ _ (by simp <;> omega)).trans ?_)
  refine (cell_new _ _ _ _ (by simp)).trans ?_
  rfl
 ·repeat (first | exact Below.refl _ _ | refine Below.alloc ?_ (by simp <;> omega) _)
theorem limits_7 (a b:Value) (w:World) :
 Calls Tryz.prog 275 #[.agg #[a,b,.int .i64 7]] w fun e w'=>∃ b0 b1 b2 b3,e = .returned (.agg #[limV b0,limV b1,limV b2,limV b3])/\Lims 7 b0 b1 b2 b3 w'/\Below w.heap.size w w':=by
 go_enter Tryz.func275,Tryz.ntmps275
 go_wp2_with (go_at_call 280;refine (within_any _ _ _).mono ?_;rintro e w' ⟨rfl,rfl⟩)
 refine bodyPost_ret (v:=.agg #[.func (.func 290) #[] #[.pointer (some ⟨w.heap.size+1+1+1+1+1,0,none⟩),.pointer (some ⟨w.heap.size+1+1+1+1+1+1,0,none⟩)],.func (.func 290) #[] #[.pointer (some ⟨w.heap.size+1+1+1+1+1+1+1,0,none⟩),.pointer (some ⟨w.heap.size+1+1+1+1+1+1+1+1,0,none⟩)],.func (.func 290) #[] #[.pointer (some ⟨w.heap.size+1+1+1+1+1+1+1+1+1,0,none⟩),.pointer (some ⟨w.heap.size+1+1+1+1+1+1+1+1+1+1,0,none⟩)],.func (.func 290) #[] #[.pointer (some ⟨w.heap.size+1+1,0,none⟩),.pointer (some ⟨w.heap.size+1+1+1,0,none⟩)]]) (by simp [results,Tryz.results275,go_sem]) rfl ⟨w.heap.size+1+1+1+1+1,w.heap.size+1+1+1+1+1+1+1,w.heap.size+1+1+1+1+1+1+1+1+1,w.heap.size+1+1,rfl,⟨?_,?_,?_,?_,?_,?_,?_,?_⟩,?_⟩
 ·iterate 5 (refine (World.cell?_alloc_lt _ _ _ (by simp <;> omega)).trans ?_)
  refine (cell_new _ _ _ _ (by simp)).trans ?_
  rfl
 ·iterate 4 (refine (World.cell?_alloc_lt _ _ _ (by simp <;> omega)).trans ?_)
  refine (cell_new _ _ _ _ (by simp)).trans ?_
  rfl
 ·iterate 3 (refine (World.cell?_alloc_lt _ _ _ (by simp <;> omega)).trans ?_)
  refine (cell_new _ _ _ _ (by simp)).trans ?_
  rfl
 ·iterate 2 (refine (World.cell?_alloc_lt _ _ _ (by simp <;> omega)).trans ?_)
  refine (cell_new _ _ _ _ (by simp)).trans ?_
  rfl
 ·iterate 1 (refine (World.cell?_alloc_lt _ _ _ (by simp <;> omega)).trans ?_)
  refine (cell_new _ _ _ _ (by simp)).trans ?_
  rfl
 ·iterate 0 (refine (World.cell?_alloc_lt _ _ _ (by simp <;> omega)).trans ?_)
  refine (cell_new _ _ _ _ (by simp)).trans ?_
  rfl
 ·iterate 8 (refine (World.cell?_alloc_lt _ _ _ (by simp <;> omega)).trans ?_)
  refine (cell_new _ _ _ _ (by simp)).trans ?_
  rfl
 ·iterate 7 (refine (World.cell?_alloc_lt _ _ _ (by simp <;> omega)).trans ?_)
  refine (cell_new _ _ _ _ (by simp)).trans ?_
  rfl
 ·repeat (first | exact Below.refl _ _ | refine Below.alloc ?_ (by simp <;> omega) _)
theorem limits_8 (a b:Value) (w:World) :
 Calls Tryz.prog 275 #[.agg #[a,b,.int .i64 8]] w fun e w'=>∃ b0 b1 b2 b3,e = .returned (.agg #[limV b0,limV b1,limV b2,limV b3])/\Lims 8 b0 b1 b2 b3 w'/\Below w.heap.size w w':=by
 go_enter Tryz.func275,Tryz.ntmps275
 go_wp2_with (go_at_call 280;refine (within_any _ _ _).mono ?_;rintro e w' ⟨rfl,rfl⟩)
 refine bodyPost_ret (v:=.agg #[.func (.func 290) #[] #[.pointer (some ⟨w.heap.size+1+1,0,none⟩),.pointer (some ⟨w.heap.size+1+1+1,0,none⟩)],.func (.func 290) #[] #[.pointer (some ⟨w.heap.size+1+1,0,none⟩),.pointer (some ⟨w.heap.size+1+1+1,0,none⟩)],.func (.func 290) #[] #[.pointer (some ⟨w.heap.size+1+1,0,none⟩),.pointer (some ⟨w.heap.size+1+1+1,0,none⟩)],.func (.func 290) #[] #[.pointer (some ⟨w.heap.size+1+1+1+1+1,0,none⟩),.pointer (some ⟨w.heap.size+1+1+1+1+1+1,0,none⟩)]]) (by simp [results,Tryz.results275,go_sem]) rfl ⟨w.heap.size+1+1,w.heap.size+1+1,w.heap.size+1+1,w.heap.size+1+1+1+1+1,rfl,⟨?_,?_,?_,?_,?_,?_,?_,?_⟩,?_⟩
 ·iterate 4 (refine (World.cell?_alloc_lt _ _ _ (by simp <;> omega)).trans ?_)
  refine (cell_new _ _ _ _ (by simp)).trans ?_
  rfl
 ·iterate 3 (refine (World.cell?_alloc_lt _ _ _ (by simp <;> omega)).trans ?_)
  refine (cell_new _ _ _ _ (by simp)).trans ?_
  rfl
 ·iterate 4 (refine (World.cell?_alloc_lt _ _ _ (by simp <;> omega)).trans ?_)
  refine (cell_new _ _ _ _ (by simp)).trans ?_
  rfl
 ·iterate 3 (refine (World.cell?_alloc_lt _ _ _ (by simp <;> omega)).trans ?_)
  refine (cell_new _ _ _ _ (by simp)).trans ?_
  rfl
 ·iterate 4 (refine (World.cell?_alloc_lt _ _ _ (by simp <;> omega)).trans ?_)
  refine (cell_new _ _ _ _ (by simp)).trans ?_
  rfl
 ·iterate 3 (refine (World.cell?_alloc_lt _ _ _ (by simp <;> omega)).trans ?_)
  refine (cell_new _ _ _ _ (by simp)).trans ?_
  rfl
 ·iterate 1 (refine (World.cell?_alloc_lt _ _ _ (by simp <;> omega)).trans ?_)
  refine (cell_new _ _ _ _ (by simp)).trans ?_
  rfl
 ·iterate 0 (refine (World.cell?_alloc_lt _ _ _ (by simp <;> omega)).trans ?_)
  refine (cell_new _ _ _ _ (by simp)).trans ?_
  rfl
 ·repeat (first | exact Below.refl _ _ | refine Below.alloc ?_ (by simp <;> omega) _)
theorem limits_9 (a b:Value) (w:World) :
 Calls Tryz.prog 275 #[.agg #[a,b,.int .i64 9]] w fun e w'=>∃ b0 b1 b2 b3,e = .returned (.agg #[limV b0,limV b1,limV b2,limV b3])/\Lims 9 b0 b1 b2 b3 w'/\Below w.heap.size w w':=by
 go_enter Tryz.func275,Tryz.ntmps275
 go_wp2_with (go_at_call 280;refine (within_any _ _ _).mono ?_;rintro e w' ⟨rfl,rfl⟩)
 refine bodyPost_ret (v:=.agg #[.func (.func 290) #[] #[.pointer (some ⟨w.heap.size+1+1+1+1+1,0,none⟩),.pointer (some ⟨w.heap.size+1+1+1+1+1+1,0,none⟩)],.func (.func 290) #[] #[.pointer (some ⟨w.heap.size+1+1,0,none⟩),.pointer (some ⟨w.heap.size+1+1+1,0,none⟩)],.func (.func 290) #[] #[.pointer (some ⟨w.heap.size+1+1,0,none⟩),.pointer (some ⟨w.heap.size+1+1+1,0,none⟩)],.func (.func 290) #[] #[.pointer (some ⟨w.heap.size+1+1+1+1+1+1+1,0,none⟩),.pointer (some ⟨w.heap.size+1+1+1+1+1+1+1+1,0,none⟩)]]) (by simp [results,Tryz.results275,go_sem]) rfl ⟨w.heap.size+1+1+1+1+1,w.heap.size+1+1,w.heap.size+1+1,w.heap.size+1+1+1+1+1+1+1,rfl,⟨?_,?_,?_,?_,?_,?_,?_,?_⟩,?_⟩
 ·iterate 3 (refine (World.cell?_alloc_lt _ _ _ (by simp <;> omega)).trans ?_)
  refine (cell_new _ _ _ _ (by simp)).trans ?_
  rfl
 ·iterate 2 (refine (World.cell?_alloc_lt _ _ _ (by simp <;> omega)).trans ?_)
  refine (cell_new _ _ _ _ (by simp)).trans ?_
  rfl
 ·iterate 6 (refine (World.cell?_alloc_lt _ _ _ (by simp <;> omega)).trans ?_)
  refine (cell_new _ _ _ _ (by simp)).trans ?_
  rfl
 ·iterate 5 (refine (World.cell?_alloc_lt _ _ _ (by simp <;> omega)).trans ?_)
  refine (cell_new _ _ _ _ (by simp)).trans ?_
  rfl
 ·iterate 6 (refine (World.cell?_alloc_lt _ _ _ (by simp <;> omega)).trans ?_)
  refine (cell_new _ _ _ _ (by simp)).trans ?_
  rfl
 ·iterate 5 (refine (World.cell?_alloc_lt _ _ _ (by simp <;> omega)).trans ?_)
  refine (cell_new _ _ _ _ (by simp)).trans ?_
  rfl
 ·iterate 1 (refine (World.cell?_alloc_lt _ _ _ (by simp <;> omega)).trans ?_)
  refine (cell_new _ _ _ _ (by simp)).trans ?_
  rfl
 ·iterate 0 (refine (World.cell?_alloc_lt _ _ _ (by simp <;> omega)).trans ?_)
  refine (cell_new _ _ _ _ (by simp)).trans ?_
  rfl
 ·repeat (first | exact Below.refl _ _ | refine Below.alloc ?_ (by simp <;> omega) _)
theorem limits_17 (a b:Value) (w:World) :
 Calls Tryz.prog 275 #[.agg #[a,b,.int .i64 17]] w fun e w'=>∃ b0 b1 b2 b3,e = .returned (.agg #[limV b0,limV b1,limV b2,limV b3])/\Lims 17 b0 b1 b2 b3 w'/\Below w.heap.size w w':=by
 go_enter Tryz.func275,Tryz.ntmps275
 go_wp2_with (go_at_call 280;refine (within_any _ _ _).mono ?_;rintro e w' ⟨rfl,rfl⟩)
 refine bodyPost_ret (v:=.agg #[.func (.func 290) #[] #[.pointer (some ⟨w.heap.size+1+1+1+1+1,0,none⟩),.pointer (some ⟨w.heap.size+1+1+1+1+1+1,0,none⟩)],.func (.func 290) #[] #[.pointer (some ⟨w.heap.size+1+1,0,none⟩),.pointer (some ⟨w.heap.size+1+1+1,0,none⟩)],.func (.func 290) #[] #[.pointer (some ⟨w.heap.size+1+1+1+1+1+1+1,0,none⟩),.pointer (some ⟨w.heap.size+1+1+1+1+1+1+1+1,0,none⟩)],.func (.func 290) #[] #[.pointer (some ⟨w.heap.size+1+1,0,none⟩),.pointer (some ⟨w.heap.size+1+1+1,0,none⟩)]]) (by simp [results,Tryz.results275,go_sem]) rfl ⟨w.heap.size+1+1+1+1+1,w.heap.size+1+1,w.heap.size+1+1+1+1+1+1+1,w.heap.size+1+1,rfl,⟨?_,?_,?_,?_,?_,?_,?_,?_⟩,?_⟩
 ·iterate 3 (refine (World.cell?_alloc_lt _ _ _ (by simp <;> omega)).trans ?_)
  refine (cell_new _ _ _ _ (by simp)).trans ?_
  rfl
 ·iterate 2 (refine (World.cell?_alloc_lt _ _ _ (by simp <;> omega)).trans ?_)
  refine (cell_new _ _ _ _ (by simp)).trans ?_
  rfl
 ·iterate 6 (refine (World.cell?_alloc_lt _ _ _ (by simp <;> omega)).trans ?_)
  refine (cell_new _ _ _ _ (by simp)).trans ?_
  rfl
 ·iterate 5 (refine (World.cell?_alloc_lt _ _ _ (by simp <;> omega)).trans ?_)
  refine (cell_new _ _ _ _ (by simp)).trans ?_
  rfl
 ·iterate 1 (refine (World.cell?_alloc_lt _ _ _ (by simp <;> omega)).trans ?_)
  refine (cell_new _ _ _ _ (by simp)).trans ?_
  rfl
 ·iterate 0 (refine (World.cell?_alloc_lt _ _ _ (by simp <;> omega)).trans ?_)
  refine (cell_new _ _ _ _ (by simp)).trans ?_
  rfl
 ·iterate 6 (refine (World.cell?_alloc_lt _ _ _ (by simp <;> omega)).trans ?_)
  refine (cell_new _ _ _ _ (by simp)).trans ?_
  rfl
 ·iterate 5 (refine (World.cell?_alloc_lt _ _ _ (by simp <;> omega)).trans ?_)
  refine (cell_new _ _ _ _ (by simp)).trans ?_
  rfl
 ·repeat (first | exact Below.refl _ _ | refine Below.alloc ?_ (by simp <;> omega) _)
theorem limits_any (a b:Value) (k:Nat) (hk:k < 32) (w:World) :
 Calls Tryz.prog 275 #[.agg #[a,b,.int .i64 (O.mask k)]] w fun e w'=>∃ b0 b1 b2 b3,e = .returned (.agg #[limV b0,limV b1,limV b2,limV b3])/\Lims (O.mask k) b0 b1 b2 b3 w'/\Below w.heap.size w w':=by
 rcases O.mask_or k hk with h | h | h | h | h | h | h | h | h <;> rw [h]
 ·exact limits_0 a b w
 ·exact limits_1 a b w
 ·exact limits_2 a b w
 ·exact limits_3 a b w
 ·exact limits_5 a b w
 ·exact limits_7 a b w
 ·exact limits_8 a b w
 ·exact limits_9 a b w
 ·exact limits_17 a b w
def bs (s:ByteArray):List UInt8:=s.data.toList
theorem shapes_alloc {w:World} (h:shapesAt w) (o:Obj):shapesAt (w.alloc o):=h.kept ((Below.refl _ _).alloc (Nat.le_refl _) _)
theorem check_no (op d s n ww:Int) (h:O.isOp op=false) (w:World) (hs:shapesAt w) :
 Calls Tryz.prog 250 #[.agg #[.int .i64 op,.int .i64 d,.int .i64 s,.int .i64 n,.int .i64 ww]] w fun e w'=>e = .returned (.int .i64 5)/\Below w.heap.size w w':=by
 have HS:=hid hs
 clear hs
 have H:=hid h
 clear h
 go_enter Tryz.func250,Tryz.ntmps250
 go_wp2_with (go_at_call 155;refine (shape_no op H.out _ (shapes_alloc HS.out _)).mono ?_;rintro e w1 ⟨rfl,hb1⟩)
 go_ret
 exact ⟨rfl,stA (stp (stA (st0 _) _) hb1) _⟩
def okTo (h:Int) (v:Nat->Int) (j:Nat):Prop:=∀ i,i < j->O.inB h i (v i)=true
def vals (d s n w:Int) (i:Nat):Int:=if i=0 then d else if i=1 then s else if i=2 then n else w
theorem okTo_4 (k:Nat) (hk:k < 32) (d s n w:Int) (h:okTo (O.mask k) (vals d s n w) 4):O.okB k d s n w=true:=by
 have h0:O.inB (O.mask k) 0 d=true:=h 0 (by omega)
 have h1:O.inB (O.mask k) 1 s=true:=h 1 (by omega)
 have h2:O.inB (O.mask k) 2 n=true:=h 2 (by omega)
 have h3:O.inB (O.mask k) 3 w=true:=h 3 (by omega)
 rw [<- O.inB_all k hk,h0,h1,h2,h3];rfl
theorem okTo_not (k:Nat) (hk:k < 32) (d s n w:Int) (i:Nat) (hi:i < 4) (h:O.inB (O.mask k) i (vals d s n w i)=false):O.okB k d s n w=false:=by
 rw [<- O.inB_all k hk]
 have hc:i=0 \/ i=1 \/ i=2 \/ i=3:=by omega
 rcases hc with rfl | rfl | rfl | rfl
 ·have h':O.inB (O.mask k) 0 d=false:=h
  rw [h'];simp
 ·have h':O.inB (O.mask k) 1 s=false:=h
  rw [h'];simp
 ·have h':O.inB (O.mask k) 2 n=false:=h
  rw [h'];simp
 ·have h':O.inB (O.mask k) 3 w=false:=h
  rw [h'];simp
theorem ck_yes {k:Nat} (hk:k < 32) (h30:k ≠ 30) (d s n w:Int):O.ck k d s n w=if O.okB k d s n w then 0 else 3:=by
 unfold O.ck
 rw [if_pos ((O.isOp_iff _).2 (by omega))]
 rfl
theorem okTo_step {h:Int} {v:Nat->Int} {j:Nat} (a:okTo h v j) (b:O.inB h j (v j)=true):okTo h v (j+1):=fun i hi=>by
 by_cases e:i < j
 ·exact a i e
 ·have:i=j:=by omega
  subst this;exact b
theorem lim_at0 (x0 x1 x2 x3:Value) (w:World):(Instr.index 346 (.agg #[x0,x1,x2,x3]) (.int .i64 0)).run Tryz.prog w = .ok x0 w:=by kernel_rfl
theorem lim_at1 (x0 x1 x2 x3:Value) (w:World):(Instr.index 346 (.agg #[x0,x1,x2,x3]) (.int .i64 1)).run Tryz.prog w = .ok x1 w:=by kernel_rfl
theorem lim_at2 (x0 x1 x2 x3:Value) (w:World):(Instr.index 346 (.agg #[x0,x1,x2,x3]) (.int .i64 2)).run Tryz.prog w = .ok x2 w:=by kernel_rfl
theorem lim_at3 (x0 x1 x2 x3:Value) (w:World):(Instr.index 346 (.agg #[x0,x1,x2,x3]) (.int .i64 3)).run Tryz.prog w = .ok x3 w:=by kernel_rfl
theorem check_yes (k:Nat) (hk:k < 32) (h30:k ≠ 30) (d s n ww:Int) (w:World) (hs:shapesAt w) :
 Calls Tryz.prog 250 #[.agg #[.int .i64 k,.int .i64 d,.int .i64 s,.int .i64 n,.int .i64 ww]] w fun e w'=>e = .returned (.int .i64 (O.ck k d s n ww))/\Below w.heap.size w w':=by
 have HS:=hid hs
 clear hs
 go_enter Tryz.func250,Tryz.ntmps250
 go_wp2_with (first
  | (go_at_call 155;refine (shape_yes k hk h30 _ (shapes_alloc HS.out _)).mono ?_;rintro e w1 ⟨rfl,hb1⟩;obtain ⟨hc1,hf1⟩:=bcell hb1;have hz1:w.heap.size < w1.heap.size:=by have:=hb1.size;simp at this;omega)
  | (go_at_call 275;refine (limits_any _ _ k hk _).mono ?_;rintro e w2 ⟨b0,b1,b2,b3,rfl,hL,hb2⟩;unfold limV;obtain ⟨hc2,hf2⟩:=bcell hb2))
 have hB:Below w.heap.size w w2:=stp (stA (stA (stp (stA (st0 _) _) hb1) _) _) hb2
 have v0:w2.cell? ⟨w1.heap.size+1,0,none⟩=some (.int .i64 d):=by rw [hc2 _ _ (by simp)];exact cell_new _ _ _ _ (by simp)
 have v1:w2.cell? ⟨w1.heap.size+1,1,none⟩=some (.int .i64 s):=by rw [hc2 _ _ (by simp)];exact cell_new _ _ _ _ (by simp)
 have v2:w2.cell? ⟨w1.heap.size+1,2,none⟩=some (.int .i64 n):=by rw [hc2 _ _ (by simp)];exact cell_new _ _ _ _ (by simp)
 have v3:w2.cell? ⟨w1.heap.size+1,3,none⟩=some (.int .i64 ww):=by rw [hc2 _ _ (by simp)];exact cell_new _ _ _ _ (by simp)
 clear hc1 hf1 hc2 hf2 hb1 hb2 HS
 obtain ⟨lo0,up0,lo1,up1,lo2,up2,lo3,up3⟩:=hL
 go_loop [28] (fun i=>∃ j:Nat,j<=4/\i = .int .i64 j/\okTo (O.mask k) (vals d s n ww) j) (fun i=>4 - (intOf i).toNat)
 case atStart=>exact ⟨0,by omega,rfl,fun i hi=>by omega⟩
 case round =>
  obtain ⟨j,hj,rfl,hok⟩:=hrel
  have OK:=hid hok
  clear hok
  have hcs:j=0 \/ j=1 \/ j=2 \/ j=3 \/ j=4:=by omega
  rcases hcs with rfl | rfl | rfl | rfl | rfl
  ·have i0:=lim_at0
   by_cases hin:O.inR (O.lo (O.mask k) 0) (O.hi (O.mask k) 0) d=true
   ·go_wp2_with (go_at_call 290;refine (in_any _ _ _ _ _ _ lo0 up0).mono ?_;rintro e w' ⟨rfl,rfl⟩)
    go_round
    case rel=>exact ⟨1,by omega,by go_num,okTo_step OK.out hin⟩
    case measure=>simp [intOf]
   ·have hin':O.inR (O.lo (O.mask k) 0) (O.hi (O.mask k) 0) d=false:=by simpa using hin
    have HC:=hid (okTo_not k hk d s n ww 0 (by omega) hin')
    clear hin
    go_wp2_with (go_at_call 290;refine (in_any _ _ _ _ _ _ lo0 up0).mono ?_;rintro e w' ⟨rfl,rfl⟩)
    go_ret
    rw [ck_yes hk h30,HC.out]
    exact ⟨rfl,hB⟩
  ·have i0:=lim_at1
   by_cases hin:O.inR (O.lo (O.mask k) 1) (O.hi (O.mask k) 1) s=true
   ·go_wp2_with (go_at_call 290;refine (in_any _ _ _ _ _ _ lo1 up1).mono ?_;rintro e w' ⟨rfl,rfl⟩)
    go_round
    case rel=>exact ⟨2,by omega,by go_num,okTo_step OK.out hin⟩
    case measure=>simp [intOf]
   ·have hin':O.inR (O.lo (O.mask k) 1) (O.hi (O.mask k) 1) s=false:=by simpa using hin
    have HC:=hid (okTo_not k hk d s n ww 1 (by omega) hin')
    clear hin
    go_wp2_with (go_at_call 290;refine (in_any _ _ _ _ _ _ lo1 up1).mono ?_;rintro e w' ⟨rfl,rfl⟩)
    go_ret
    rw [ck_yes hk h30,HC.out]
    exact ⟨rfl,hB⟩
  ·have i0:=lim_at2
   by_cases hin:O.inR (O.lo (O.mask k) 2) (O.hi (O.mask k) 2) n=true
   ·go_wp2_with (go_at_call 290;refine (in_any _ _ _ _ _ _ lo2 up2).mono ?_;rintro e w' ⟨rfl,rfl⟩)
    go_round
    case rel=>exact ⟨3,by omega,by go_num,okTo_step OK.out hin⟩
    case measure=>simp [intOf]
   ·have hin':O.inR (O.lo (O.mask k) 2) (O.hi (O.mask k) 2) n=false:=by simpa using hin
    have HC:=hid (okTo_not k hk d s n ww 2 (by omega) hin')
    clear hin
    go_wp2_with (go_at_call 290;refine (in_any _ _ _ _ _ _ lo2 up2).mono ?_;rintro e w' ⟨rfl,rfl⟩)
    go_ret
    rw [ck_yes hk h30,HC.out]
    exact ⟨rfl,hB⟩
  ·have i0:=lim_at3
   by_cases hin:O.inR (O.lo (O.mask k) 3) (O.hi (O.mask k) 3) ww=true
   ·go_wp2_with (go_at_call 290;refine (in_any _ _ _ _ _ _ lo3 up3).mono ?_;rintro e w' ⟨rfl,rfl⟩)
    go_round
    case rel=>exact ⟨4,by omega,by go_num,okTo_step OK.out hin⟩
    case measure=>simp [intOf]
   ·have hin':O.inR (O.lo (O.mask k) 3) (O.hi (O.mask k) 3) ww=false:=by simpa using hin
    have HC:=hid (okTo_not k hk d s n ww 3 (by omega) hin')
    clear hin
    go_wp2_with (go_at_call 290;refine (in_any _ _ _ _ _ _ lo3 up3).mono ?_;rintro e w' ⟨rfl,rfl⟩)
    go_ret
    rw [ck_yes hk h30,HC.out]
    exact ⟨rfl,hB⟩
  ·have HC:=hid (okTo_4 k hk d s n ww OK.out)
   go_wp2
   go_ret
   rw [ck_yes hk h30,HC.out]
   exact ⟨rfl,hB⟩
theorem check_any (op d s n ww:Int) (w:World) (hs:shapesAt w) :
 Calls Tryz.prog 250 #[.agg #[.int .i64 op,.int .i64 d,.int .i64 s,.int .i64 n,.int .i64 ww]] w fun e w'=>e = .returned (.int .i64 (O.ck op d s n ww))/\Below w.heap.size w w':=by
 cases h:O.isOp op
 ·refine (check_no op d s n ww h w hs).mono fun e w' hh=>⟨hh.1.trans ?_,hh.2⟩
  unfold O.ck;rw [h];rfl
 ·obtain ⟨h1,h2,h3⟩:=(O.isOp_iff op).1 h
  obtain ⟨k,rfl⟩:=Int.eq_ofNat_of_zero_le h1
  exact check_yes k (by omega) (by omega) d s n ww w hs
end Go.Proofs.YtbhpfkjfijdmaaaGreatDoor
