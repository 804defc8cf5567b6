/-
  Parts of a proof, joined.
-/
import Derived.Test.YtbhpfkjfijdmaaaGreatDoorZw00
import Derived.WalkKit
import Derived.ProofKit
import Derived.OpenShut
import Derived.WalkSpells
import Derived.Outline
import Derived.Laws.EntriesVeiled
import Derived.Test.YtbhpfkjfijdmaaaGreatDoorRows
import Derived.Deep.RegionHeld3
namespace Go.Proofs.YtbhpfkjfijdmaaaGreatDoor
open Go.ChangeShapes Go.WideShapes Go.ChangeAt Go.RowKit
set_option linter.unusedVariables false
set_option maxRecDepth 100000
set_option maxHeartbeats 1600000
theorem hid {p:Prop} (h:p):Hid p:=h
theorem ret_b {b b':Bool} (h:b=b'):Ending.returned (.bool b) = .returned (.bool b'):=by rw [h]
theorem stp {W a b:World} (h:Below W.heap.size W a) (hb:Below a.heap.size a b):Below W.heap.size W b:=h.trans (hb.mono h.size)
theorem stA {W a:World} (h:Below W.heap.size W a) (o:Obj):Below W.heap.size W (a.alloc o):=h.alloc h.size o
theorem st0 (W:World):Below W.heap.size W W:=Below.refl _ _
theorem bcell {W w1:World} (hb:Below W.heap.size W w1):(∀ b o,b < W.heap.size->w1.cell? ⟨b,o,none⟩=W.cell? ⟨b,o,none⟩)/\(∀ b o,b < W.heap.size->w1.frozen? ⟨b,o,none⟩=W.frozen? ⟨b,o,none⟩) :=
 ⟨fun b o h=>hb.cell (p:=⟨b,o,none⟩) h,fun b o h=>hb.frozen (p:=⟨b,o,none⟩) h⟩
theorem shape_yes (k:Nat) (hk:k < 32) (h30:k ≠ 30) (w:World) (hs:shapesAt w) :
 Calls Tryz.prog 155 #[.int .i64 k] w fun e w'=>e = .returned (.tuple #[.agg #[.string (O.nameS k),.int .i64 (K.cyc k),.int .i64 (O.mask k)],.int .i64 0])/\Below w.heap.size w w':=by
 have hl:=hs.lt
 obtain ⟨c0,c1,c2⟩:=hs k hk
 have hn:(O.nameS k).toList.isEmpty=false:=(O.nameS_empty k hk).trans (by simpa using h30)
 clear hs
 go_enter Tryz.func155,Tryz.ntmps155
 go_wp2
 exact bodyPost_ret (v:=.tuple #[.agg #[.string (O.nameS k),.int .i64 (K.cyc k),.int .i64 (O.mask k)],.int .i64 0]) (by simp [results,Tryz.results155,go_sem]) rfl ⟨rfl,(Below.refl _ _).alloc (Nat.le_refl _) _⟩
theorem shape_no (op:Int) (h:O.isOp op=false) (w:World) (hs:shapesAt w) :
 Calls Tryz.prog 155 #[.int .i64 op] w fun e w'=>e = .returned (.tuple #[.agg #[.string ⟨#[]⟩,.int .i64 0,.int .i64 0],.int .i64 5])/\Below w.heap.size w w':=by
 have hl:=hs.lt
 have h':¬ (0<=op/\op<=31/\op ≠ 30):=fun c=>by rw [(O.isOp_iff op).2 c] at h;cases h
 obtain ⟨c0,c1,c2⟩:=hs 30 (by omega)
 clear hs h
 have e30:O.nameS 30=⟨#[]⟩:=rfl
 rw [e30] at c0
 clear e30
 have hc:op < 0 \/ 31 < op \/ op=30:=by omega
 clear h'
 rcases hc with h | h | rfl
 ·go_enter Tryz.func155,Tryz.ntmps155
  go_wp2
  exact bodyPost_ret (v:=.tuple #[.agg #[.string ⟨#[]⟩,.int .i64 0,.int .i64 0],.int .i64 5]) (by simp [results,Tryz.results155,go_sem]) rfl ⟨rfl,(Below.refl _ _).alloc (Nat.le_refl _) _⟩
 ·have h2:¬ op < 0:=by omega
  go_enter Tryz.func155,Tryz.ntmps155
  go_wp2
  exact bodyPost_ret (v:=.tuple #[.agg #[.string ⟨#[]⟩,.int .i64 0,.int .i64 0],.int .i64 5]) (by simp [results,Tryz.results155,go_sem]) rfl ⟨rfl,(Below.refl _ _).alloc (Nat.le_refl _) _⟩
 ·go_enter Tryz.func155,Tryz.ntmps155
  go_wp2
  exact bodyPost_ret (v:=.tuple #[.agg #[.string ⟨#[]⟩,.int .i64 0,.int .i64 0],.int .i64 5]) (by simp [results,Tryz.results155,go_sem]) rfl ⟨rfl,(Below.refl _ _).alloc (Nat.le_refl _) _⟩
def lenOf (h:Int):Int:=if h / 8 % 2=1 then 2 else 1
theorem words_any (a b:Value) (k:Nat) (hk:k < 32) (w:World) :
 Calls Tryz.prog 206 #[.agg #[a,b,.int .i64 (O.mask k)]] w fun e w'=>e = .returned (.int .i64 (lenOf (O.mask k)))/\Below w.heap.size w w':=by
 rcases O.mask_or k hk with h | h | h | h | h | h | h | h | h <;> rw [h]
 all_goals
  clear h
  go_enter Tryz.func206,Tryz.ntmps206
  go_wp2
  go_ret
  exact ⟨rfl,(Below.refl _ _).alloc (Nat.le_refl _) _⟩
def limV (b:Nat):Value:=.func (.func 290) #[] #[.pointer (some ⟨b,0,none⟩),.pointer (some ⟨b+1,0,none⟩)]
theorem within_any (l u:Int) (w:World) :
 Calls Tryz.prog 280 #[.int .i64 l,.int .i64 u] w fun e w'=>e = .returned (.func (.func 290) #[] #[.pointer (some ⟨w.heap.size,0,none⟩),.pointer (some ⟨w.heap.size+1,0,none⟩)])/\w'=(w.alloc (.cells #[.int .i64 l] 3)).alloc (.cells #[.int .i64 u] 3):=by
 go_enter Tryz.func280,Tryz.ntmps280
 go_wp2
 go_ret
 exact ⟨rfl,rfl⟩
theorem in_any (l u x:Int) (b c:Nat) (w:World) (hl:w.cell? ⟨b,0,none⟩=some (.int .i64 l)) (hu:w.cell? ⟨c,0,none⟩=some (.int .i64 u)) :
 Calls Tryz.prog 290 #[.int .i64 x,.pointer (some ⟨b,0,none⟩),.pointer (some ⟨c,0,none⟩)] w fun e w'=>e = .returned (.bool (O.inR l u x))/\w'=w:=by
 have e:∀ b,(decide (l<=x) && decide (x<=u))=b->Hid (O.inR l u x=b):=fun _ h=>h
 by_cases h1:l<=x <;> by_cases h2:x<=u
 ·have e:=e true (by simp [h1,h2])
  go_enter Tryz.func290,Tryz.ntmps290
  go_wp2
  go_ret
  rw [e.out]
  exact ⟨rfl,rfl⟩
 all_goals
  have e:=e false (by simp;omega)
  go_enter Tryz.func290,Tryz.ntmps290
  go_wp2
  go_ret
  rw [e.out]
  exact ⟨rfl,rfl⟩
theorem cell_new (w:World) (cs:Array Value) (t:TypeId) (b:Nat) (h:b=w.heap.size) {k:Nat}:(w.alloc (.cells cs t)).cell? ⟨b,k,none⟩=cs[k]?:=by subst h;exact World.cell?_alloc_new ..
structure Lims (h : Int) (b0 b1 b2 b3 : Nat) (w : World) : Prop where
 l0:w.cell? ⟨b0,0,none⟩=some (.int .i64 (O.lo h 0))
 u0:w.cell? ⟨b0+1,0,none⟩=some (.int .i64 (O.hi h 0))
 l1:w.cell? ⟨b1,0,none⟩=some (.int .i64 (O.lo h 1))
 u1:w.cell? ⟨b1+1,0,none⟩=some (.int .i64 (O.hi h 1))
 l2:w.cell? ⟨b2,0,none⟩=some (.int .i64 (O.lo h 2))
 u2:w.cell? ⟨b2+1,0,none⟩=some (.int .i64 (O.hi h 2))
 l3:w.cell? ⟨b3,0,none⟩=some (.int .i64 (O.lo h 3))
 u3:w.cell? ⟨b3+1,0,none⟩=some (.int .i64 (O.hi h 3))
theorem limits_0 (a b:Value) (w:World) :
 Calls Tryz.prog 275 #[.agg #[a,b,.int .i64 0]] w fun e w'=>∃ b0 b1 b2 b3,e = .returned (.agg #[limV b0,limV b1,limV b2,limV b3])/\Lims 0 b0 b1 b2 b3 w'/\Below w.heap.size w w':=by
 go_enter Tryz.func275,Tryz.ntmps275
 go_wp2_with (go_at_call 280;refine (within_any _ _ _).mono ?_;rintro e w' ⟨rfl,rfl⟩)
 refine bodyPost_ret (v:=.agg #[.func (.func 290) #[] #[.pointer (some ⟨w.heap.size+1+1,0,none⟩),.pointer (some ⟨w.heap.size+1+1+1,0,none⟩)],.func (.func 290) #[] #[.pointer (some ⟨w.heap.size+1+1,0,none⟩),.pointer (some ⟨w.heap.size+1+1+1,0,none⟩)],.func (.func 290) #[] #[.pointer (some ⟨w.heap.size+1+1,0,none⟩),.pointer (some ⟨w.heap.size+1+1+1,0,none⟩)],.func (.func 290) #[] #[.pointer (some ⟨w.heap.size+1+1,0,none⟩),.pointer (some ⟨w.heap.size+1+1+1,0,none⟩)]]) (by simp [results,Tryz.results275,go_sem]) rfl ⟨w.heap.size+1+1,w.heap.size+1+1,w.heap.size+1+1,w.heap.size+1+1,rfl,⟨?_,?_,?_,?_,?_,?_,?_,?_⟩,?_⟩
 ·iterate 2 (refine (World.cell?_alloc_lt _ _ _ (by simp <;> omega)).trans ?_)
  refine (cell_new _ _ _ _ (by simp)).trans ?_
  rfl
 ·iterate 1 (refine (World.cell?_alloc_lt _ _ _ (by simp <;> omega)).trans ?_)
  refine (cell_new _ _ _ _ (by simp)).trans ?_
  rfl
 ·iterate 2 (refine (World.cell?_alloc_lt _ _ _ (by simp <;> omega)).trans ?_)
  refine (cell_new _ _ _ _ (by simp)).trans ?_
  rfl
 ·iterate 1 (refine (World.cell?_alloc_lt _ _ _ (by simp <;> omega)).trans ?_)
  refine (cell_new _ _ _ _ (by simp)).trans ?_
  rfl
 ·iterate 2 (refine (World.cell?_alloc_lt _ _ _ (by simp <;> omega)).trans ?_)
  refine (cell_new _ _ _ _ (by simp)).trans ?_
  rfl
 ·iterate 1 (refine (World.cell?_alloc_lt _ _ _ (by simp <;> omega)).trans ?_)
  refine (cell_new _ _ _ _ (by simp)).trans ?_
  rfl
 ·iterate 2 (refine (World.cell?_alloc_lt _ _ _ (by simp <;> omega)).trans ?_)
  refine (cell_new _ _ _ _ (by simp)).trans ?_
  rfl
 ·iterate 1 (refine (World.cell?_alloc_lt _ _ _ (by simp <;> omega)).trans ?_)
  refine (cell_new _ _ _ _ (by simp)).trans ?_
  rfl
 ·repeat (first | exact Below.refl _ _ | refine Below.alloc ?_ (by simp <;> omega) _)
theorem limits_1 (a b:Value) (w:World) :
 Calls Tryz.prog 275 #[.agg #[a,b,.int .i64 1]] w fun e w'=>∃ b0 b1 b2 b3,e = .returned (.agg #[limV b0,limV b1,limV b2,limV b3])/\Lims 1 b0 b1 b2 b3 w'/\Below w.heap.size w w':=by
 go_enter Tryz.func275,Tryz.ntmps275
 go_wp2_with (go_at_call 280;refine (within_any _ _ _).mono ?_;rintro e w' ⟨rfl,rfl⟩)
 refine bodyPost_ret (v:=.agg #[.func (.func 290) #[] #[.pointer (some ⟨w.heap.size+1+1+1+1+1,0,none⟩),.pointer (some ⟨w.heap.size+1+1+1+1+1+1,0,none⟩)],.func (.func 290) #[] #[.pointer (some ⟨w.heap.size+1+1,0,none⟩),.pointer (some ⟨w.heap.size+1+1+1,0,none⟩)],.func (.func 290) #[] #[.pointer (some ⟨w.heap.size+1+1,0,none⟩),.pointer (some ⟨w.heap.size+1+1+1,0,none⟩)],.func (.func 290) #[] #[.pointer (some ⟨w.heap.size+1+1,0,none⟩),.pointer (some ⟨w.heap.size+1+1+1,0,none⟩)]]) (by simp [results,Tryz.results275,go_sem]) rfl ⟨w.heap.size+1+1+1+1+1,w.heap.size+1+1,w.heap.size+1+1,w.heap.size+1+1,rfl,⟨?_,?_,?_,?_,?_,?_,?_,?_⟩,?_⟩
 ·iterate 1 (refine (World.cell?_alloc_lt _ _ _ (by simp <;> omega)).trans ?_)
  refine (cell_new _ _ _ _ (by simp)).trans ?_
  rfl
 ·iterate 0 (refine (World.cell?_alloc_lt _ _ _ (by simp <;> omega)).trans ?_)
  refine (cell_new _ _ _ _ (by simp)).trans ?_
  rfl
 ·iterate 4 (refine (World.cell?_alloc_lt _ _ _ (by simp <;> omega)).trans ?_)
  refine (cell_new _ _ _ _ (by simp)).trans ?_
  rfl
 ·iterate 3 (refine (World.cell?_alloc_lt _ _ _ (by simp <;> omega)).trans ?_)
  refine (cell_new _ _ _ _ (by simp)).trans ?_
  rfl
 ·iterate 4 (refine (World.cell?_alloc_lt _ _ _ (by simp <;> omega)).trans ?_)
  refine (cell_new _ _ _ _ (by simp)).trans ?_
  rfl
 ·iterate 3 (refine (World.cell?_alloc_lt _ _ _ (by simp <;> omega)).trans ?_)
  refine (cell_new _ _ _ _ (by simp)).trans ?_
  rfl
 ·iterate 4 (refine (World.cell?_alloc_lt _ _ _ (by simp <;> omega)).trans ?_)
  refine (cell_new _ _ _ _ (by simp)).trans ?_
  rfl
 ·iterate 3 (refine (World.cell?_alloc_lt _ _ _ (by simp <;> omega)).trans ?_)
  refine (cell_new _ _ _ _ (by simp)).trans ?_
  rfl
 ·repeat (first | exact Below.refl _ _ | refine Below.alloc ?_ (by simp <;> omega) _)
theorem limits_2 (a b:Value) (w:World) :
 Calls Tryz.prog 275 #[.agg #[a,b,.int .i64 2]] w fun e w'=>∃ b0 b1 b2 b3,e = .returned (.agg #[limV b0,limV b1,limV b2,limV b3])/\Lims 2 b0 b1 b2 b3 w'/\Below w.heap.size w w':=by
 go_enter Tryz.func275,Tryz.ntmps275
 go_wp2_with (go_at_call 280;refine (within_any _ _ _).mono ?_;rintro e w' ⟨rfl,rfl⟩)
 refine bodyPost_ret (v:=.agg #[.func (.func 290) #[] #[.pointer (some ⟨w.heap.size+1+1,0,none⟩),.pointer (some ⟨w.heap.size+1+1+1,0,none⟩)],.func (.func 290) #[] #[.pointer (some ⟨w.heap.size+1+1+1+1+1,0,none⟩),.pointer (some ⟨w.heap.size+1+1+1+1+1+1,0,none⟩)],.func (.func 290) #[] #[.pointer (some ⟨w.heap.size+1+1,0,none⟩),.pointer (some ⟨w.heap.size+1+1+1,0,none⟩)],.func (.func 290) #[] #[.pointer (some ⟨w.heap.size+1+1,0,none⟩),.pointer (some ⟨w.heap.size+1+1+1,0,none⟩)]]) (by simp [results,Tryz.results275,go_sem]) rfl ⟨w.heap.size+1+1,w.heap.size+1+1+1+1+1,w.heap.size+1+1,w.heap.size+1+1,rfl,⟨?_,?_,?_,?_,?_,?_,?_,?_⟩,?_⟩
 ·iterate 4 (refine (World.cell?_alloc_lt _ _ _ (by simp <;> omega)).trans ?_)
  refine (cell_new _ _ _ _ (by simp)).trans ?_
  rfl
 ·iterate 3 (refine (World.cell?_alloc_lt _ _ _ (by simp <;> omega)).trans ?_)
  refine (cell_new _ _ _ _ (by simp)).trans ?_
  rfl
 ·iterate 1 (refine (World.cell?_alloc_lt _ _ _ (by simp <;> omega)).trans ?_)
  refine (cell_new _ _ _ _ (by simp)).trans ?_
  rfl
 ·iterate 0 (refine (World.cell?_alloc_lt _ _ _ (by simp <;> omega)).trans ?_)
  refine (cell_new _ _ _ _ (by simp)).trans ?_
  rfl
 ·iterate 4 (refine (World.cell?_alloc_lt _ _ _ (by simp <;> omega)).trans ?_)
  refine (cell_new _ _ _ _ (by simp)).trans ?_
  rfl
 ·iterate 3 (refine (World.cell?_alloc_lt _ _ _ (by simp <;> omega)).trans ?_)
  refine (cell_new _ _ _ _ (by simp)).trans ?_
  rfl
 ·iterate 4 (refine (World.cell?_alloc_lt _ _ _ (by simp <;> omega)).trans ?_)
  refine (cell_new _ _ _ _ (by simp)).trans ?_
  rfl
 ·iterate 3 (refine (World.cell?_alloc_lt _ _ _ (by simp <;> omega)).trans ?_)
  refine (cell_new _ _ _ _ (by simp)).trans ?_
  rfl
 ·repeat (first | exact Below.refl _ _ | refine Below.alloc ?_ (by simp <;> omega) _)
theorem limits_3 (a b:Value) (w:World) :
 Calls Tryz.prog 275 #[.agg #[a,b,.int .i64 3]] w fun e w'=>∃ b0 b1 b2 b3,e = .returned (.agg #[limV b0,limV b1,limV b2,limV b3])/\Lims 3 b0 b1 b2 b3 w'/\Below w.heap.size w w':=by
 go_enter Tryz.func275,Tryz.ntmps275
 go_wp2_with (go_at_call 280;refine (within_any _ _ _).mono ?_;rintro e w' ⟨rfl,rfl⟩)
 refine bodyPost_ret (v:=.agg #[.func (.func 290) #[] #[.pointer (some ⟨w.heap.size+1+1+1+1+1,0,none⟩),.pointer (some ⟨w.heap.size+1+1+1+1+1+1,0,none⟩)],.func (.func 290) #[] #[.pointer (some ⟨w.heap.size+1+1+1+1+1+1+1,0,none⟩),.pointer (some ⟨w.heap.size+1+1+1+1+1+1+1+1,0,none⟩)],.func (.func 290) #[] #[.pointer (some ⟨w.heap.size+1+1,0,none⟩),.pointer (some ⟨w.heap.size+1+1+1,0,none⟩)],.func (.func 290) #[] #[.pointer (some ⟨w.heap.size+1+1,0,none⟩),.pointer (some ⟨w.heap.size+1+1+1,0,none⟩)]]) (by simp [results,Tryz.results275,go_sem]) rfl ⟨w.heap.size+1+1+1+1+1,w.heap.size+1+1+1+1+1+1+1,w.heap.size+1+1,w.heap.size+1+1,rfl,⟨?_,?_,?_,?_,?_,?_,?_,?_⟩,?_⟩
 ·iterate 3 (refine (World.cell?_alloc_lt _ _ _ (by simp <;> omega)).trans ?_)
  refine (cell_new _ _ _ _ (by simp)).trans ?_
  rfl
 ·iterate 2 (refine (World.cell?_alloc_lt _ _ _ (by simp <;> omega)).trans ?_)
  refine (cell_new _ _ _ _ (by simp)).trans ?_
  rfl
 ·iterate 1 (refine (World.cell?_alloc_lt _ _ _ (by simp <;> omega)).trans ?_)
  refine (cell_new _ _ _ _ (by simp)).trans ?_
  rfl
 ·iterate 0 (refine (World.cell?_alloc_lt _ _ _ (by simp <;> omega)).trans ?_)
  refine (cell_new _ _ _ _ (by simp)).trans ?_
  rfl
 ·iterate 6 (refine (World.cell?_alloc_lt _ _ _ (by simp <;> omega)).trans ?_)
  refine (cell_new _ _ _ _ (by simp)).trans ?_
  rfl
 ·iterate 5 (refine (World.cell?_alloc_lt _ _ _ (by simp <;> omega)).trans ?_)
  refine (cell_new _ _ _ _ (by simp)).trans ?_
  rfl
 ·iterate 6 (refine (World.cell?_alloc_lt _ _ _ (by simp <;> omega)).trans ?_)
  refine (cell_new _ _ _ _ (by simp)).trans ?_
  rfl
 ·iterate 5 (refine (World.cell?_alloc_lt _ _ _ (by simp <;> omega)).trans ?_)
  refine (cell_new _ _ _ _ (by simp)).trans ?_
  rfl
 ·repeat (first | exact Below.refl _ _ | refine Below.alloc ?_ (by simp <;> omega) _)
theorem limits_5 (a b:Value) (w:World) :
 Calls Tryz.prog 275 #[.agg #[a,b,.int .i64 5]] w fun e w'=>∃ b0 b1 b2 b3,e = .returned (.agg #[limV b0,limV b1,limV b2,limV b3])/\Lims 5 b0 b1 b2 b3 w'/\Below w.heap.size w w':=by
 go_enter Tryz.func275,Tryz.ntmps275
 go_wp2_with (go_at_call 280;refine (within_any _ _ _).mono ?_;rintro e w' ⟨rfl,rfl⟩)
 refine bodyPost_ret (v:=.agg #[.func (.func 290) #[] #[.pointer (some ⟨w.heap.size+1+1+1+1+1,0,none⟩),.pointer (some ⟨w.heap.size+1+1+1+1+1+1,0,none⟩)],.func (.func 290) #[] #[.pointer (some ⟨w.heap.size+1+1,0,none⟩),.pointer (some ⟨w.heap.size+1+1+1,0,none⟩)],.func (.func 290) #[] #[.pointer (some ⟨w.heap.size+1+1+1+1+1+1+1,0,none⟩),.pointer (some ⟨w.heap.size+1+1+1+1+1+1+1+1,0,none⟩)],.func (.func 290) #[] #[.pointer (some ⟨w.heap.size+1+1,0,none⟩),.pointer (some ⟨w.heap.size+1+1+1,0,none⟩)]]) (by simp [results,Tryz.results275,go_sem]) rfl ⟨w.heap.size+1+1+1+1+1,w.heap.size+1+1,w.heap.size+1+1+1+1+1+1+1,w.heap.size+1+1,rfl,⟨?_,?_,?_,?_,?_,?_,?_,?_⟩,?_⟩
 ·iterate 3 (refine (World.cell?_alloc_lt _ _ _ (by simp <;> omega)).trans ?_)
  refine (cell_new _ _ _ _ (by simp)).trans ?_
  rfl
 ·iterate 2 (refine (World.cell?_alloc_lt _ _ _ (by simp <;> omega)).trans ?_)
  refine (cell_new _ _ _ _ (by simp)).trans ?_
  rfl
 ·iterate 6 (refine (World.cell?_alloc_lt _ _ _ (by simp <;> omega)).trans ?_)
  refine (cell_new _ _ _ _ (by simp)).trans ?_
  rfl
 ·iterate 5 (refine (World.cell?_alloc_lt _ _ _ (by simp <;> omega)).trans ?_)
  refine (cell_new _ _ _ _ (by simp)).trans ?_
  rfl
 ·iterate 1 (refine (World.cell?_alloc_lt _ _ _ (by simp <;> omega)).trans ?_)
  refine (cell_new _ _ _ _ (by simp)).trans ?_
  rfl
 ·iterate 0 (refine (World.cell?_alloc_lt _ _ _ (by simp <;> omega)).trans ?_)
  refine (cell_new _ _ _ _ (by simp)).trans ?_
  rfl
 ·iterate 6 (refine (World.cell?_alloc_lt _ _ _ (by simp <;> omega)).trans ?_)
  refine (cell_new _ _ _ _ (by simp)).trans ?_
  rfl
 ·iterate 5 (refine (World.cell?_alloc_lt _ _ _ (by simp <;> omega)).trans ?_)
  refine (cell_new _ _ _ _ (by simp)).trans ?_
  rfl
 ·repeat (first | exact Below.refl _ _ | refine Below.alloc ?_ (by simp <;> omega) _)
theorem limits_7 (a b:Value) (w:World) :
 Calls Tryz.prog 275 #[.agg #[a,b,.int .i64 7]] w fun e w'=>∃ b0 b1 b2 b3,e = .returned (.agg #[limV b0,limV b1,limV b2,limV b3])/\Lims 7 b0 b1 b2 b3 w'/\Below w.heap.size w w':=by
 go_enter Tryz.func275,Tryz.ntmps275
 go_wp2_with (go_at_call 280;refine (within_any _ _ _).mono ?_;rintro e w' ⟨rfl,rfl⟩)
 refine bodyPost_ret (v:=.agg #[.func (.func 290) #[] #[.pointer (some ⟨w.heap.size+1+1+1+1+1,0,none⟩),.pointer (some ⟨w.heap.size+1+1+1+1+1+1,0,none⟩)],.func (.func 290) #[] #[.pointer (some ⟨w.heap.size+1+1+1+1+1+1+1,0,none⟩),.pointer (some ⟨w.heap.size+1+1+1+1+1+1+1+1,0,none⟩)],.func (.func 290) #[] #[.pointer (some ⟨w.heap.size+1+1+1+1+1+1+1+1+1,0,none⟩),.pointer (some ⟨w.heap.size+1+1+1+1+1+1+1+1+1+1,0,none⟩)],.func (.func 290) #[] #[.pointer (some ⟨w.heap.size+1+1,0,none⟩),.pointer (some ⟨w.heap.size+1+1+1,0,none⟩)]]) (by simp [results,Tryz.results275,go_sem]) rfl ⟨w.heap.size+1+1+1+1+1,w.heap.size+1+1+1+1+1+1+1,w.heap.size+1+1+1+1+1+1+1+1+1,w.heap.size+1+1,rfl,⟨?_,?_,?_,?_,?_,?_,?_,?_⟩,?_⟩
 ·iterate 5 (refine (World.cell?_alloc_lt _ _ _ (by simp <;> omega)).trans ?_)
  refine (cell_new _ _ _ _ (by simp)).trans ?_
  rfl
 ·iterate 4 (refine (World.cell?_alloc_lt _ _ _ (by simp <;> omega)).trans ?_)
  refine (cell_new _ _ _ _ (by simp)).trans ?_
  rfl
 ·iterate 3 (refine (World.cell?_alloc_lt _ _ _ (by simp <;> omega)).trans ?_)
  refine (cell_new _ _ _ _ (by simp)).trans ?_
  rfl
 ·iterate 2 (refine (World.cell?_alloc_lt _ _ _ (by simp <;> omega)).trans ?_)
  refine (cell_new _ _ _ _ (by simp)).trans ?_
  rfl
 ·iterate 1 (refine (World.cell?_alloc_lt _ _ _ (by simp <;> omega)).trans ?_)
  refine (cell_new _ _ _ _ (by simp)).trans ?_
  rfl
 ·iterate 0 (refine (World.cell?_alloc_lt _ _ _ (by simp <;> omega)).trans ?_)
  refine (cell_new _ _ _ _ (by simp)).trans ?_
  rfl
 ·iterate 8 (refine (World.cell?_alloc_lt _ _ _ (by simp <;> omega)).trans ?_)
  refine (cell_new _ _ _ _ (by simp)).trans ?_
  rfl
 ·iterate 7 (refine (World.cell?_alloc_lt _ _ _ (by simp <;> omega)).trans ?_)
  refine (cell_new _ _ _ _ (by simp)).trans ?_
  rfl
 ·repeat (first | exact Below.refl _ _ | refine Below.alloc ?_ (by simp <;> omega) _)
theorem limits_8 (a b:Value) (w:World) :
 Calls Tryz.prog 275 #[.agg #[a,b,.int .i64 8]] w fun e w'=>∃ b0 b1 b2 b3,e = .returned (.agg #[limV b0,limV b1,limV b2,limV b3])/\Lims 8 b0 b1 b2 b3 w'/\Below w.heap.size w w':=by
 go_enter Tryz.func275,Tryz.ntmps275
 go_wp2_with (go_at_call 280;refine (within_any _ _ _).mono ?_;rintro e w' ⟨rfl,rfl⟩)
 refine bodyPost_ret (v:=.agg #[.func (.func 290) #[] #[.pointer (some ⟨w.heap.size+1+1,0,none⟩),.pointer (some ⟨w.heap.size+1+1+1,0,none⟩)],.func (.func 290) #[] #[.pointer (some ⟨w.heap.size+1+1,0,none⟩),.pointer (some ⟨w.heap.size+1+1+1,0,none⟩)],.func (.func 290) #[] #[.pointer (some ⟨w.heap.size+1+1,0,none⟩),.pointer (some ⟨w.heap.size+1+1+1,0,none⟩)],.func (.func 290) #[] #[.pointer (some ⟨w.heap.size+1+1+1+1+1,0,none⟩),.pointer (some ⟨w.heap.size+1+1+1+1+1+1,0,none⟩)]]) (by simp [results,Tryz.results275,go_sem]) rfl ⟨w.heap.size+1+1,w.heap.size+1+1,w.heap.size+1+1,w.heap.size+1+1+1+1+1,rfl,⟨?_,?_,?_,?_,?_,?_,?_,?_⟩,?_⟩
 ·iterate 4 (refine (World.cell?_alloc_lt _ _ _ (by simp <;> omega)).trans ?_)
  refine (cell_new _ _ _ _ (by simp)).trans ?_
  rfl
 ·iterate 3 (refine (World.cell?_alloc_lt _ _ _ (by simp <;> omega)).trans ?_)
  refine (cell_new _ _ _ _ (by simp)).trans ?_
  rfl
 ·iterate 4 (refine (World.cell?_alloc_lt _ _ _ (by simp <;> omega)).trans ?_)
  refine (cell_new _ _ _ _ (by simp)).trans ?_
  rfl
 ·iterate 3 (refine (World.cell?_alloc_lt _ _ _ (by simp <;> omega)).trans ?_)
  refine (cell_new _ _ _ _ (by simp)).trans ?_
  rfl
 ·iterate 4 (refine (World.cell?_alloc_lt _ _ _ (by simp <;> omega)).trans ?_)
  refine (cell_new _ _ _ _ (by simp)).trans ?_
  rfl
 ·iterate 3 (refine (World.cell?_alloc_lt _ _ _ (by simp <;> omega)).trans ?_)
  refine (cell_new _ _ _ _ (by simp)).trans ?_
  rfl
 ·iterate 1 (refine (World.cell?_alloc_lt _ _ _ (by simp <;> omega)).trans ?_)
  refine (cell_new _ _ _ _ (by simp)).trans ?_
  rfl
 ·iterate 0 (refine (World.cell?_alloc_lt _ _ _ (by simp <;> omega)).trans ?_)
  refine (cell_new _ _ _ _ (by simp)).trans ?_
  rfl
 ·repeat (first | exact Below.refl _ _ | refine Below.alloc ?_ (by simp <;> omega) _)
theorem limits_9 (a b:Value) (w:World) :
 Calls Tryz.prog 275 #[.agg #[a,b,.int .i64 9]] w fun e w'=>∃ b0 b1 b2 b3,e = .returned (.agg #[limV b0,limV b1,limV b2,limV b3])/\Lims 9 b0 b1 b2 b3 w'/\Below w.heap.size w w':=by
 go_enter Tryz.func275,Tryz.ntmps275
 go_wp2_with (go_at_call 280;refine (within_any _ _ _).mono ?_;rintro e w' ⟨rfl,rfl⟩)
 refine bodyPost_ret (v:=.agg #[.func (.func 290) #[] #[.pointer (some ⟨w.heap.size+1+1+1+1+1,0,none⟩),.pointer (some ⟨w.heap.size+1+1+1+1+1+1,0,none⟩)],.func (.func 290) #[] #[.pointer (some ⟨w.heap.size+1+1,0,none⟩),.pointer (some ⟨w.heap.size+1+1+1,0,none⟩)],.func (.func 290) #[] #[.pointer (some ⟨w.heap.size+1+1,0,none⟩),.pointer (some ⟨w.heap.size+1+1+1,0,none⟩)],.func (.func 290) #[] #[.pointer (some ⟨w.heap.size+1+1+1+1+1+1+1,0,none⟩),.pointer (some ⟨w.heap.size+1+1+1+1+1+1+1+1,0,none⟩)]]) (by simp [results,Tryz.results275,go_sem]) rfl ⟨w.heap.size+1+1+1+1+1,w.heap.size+1+1,w.heap.size+1+1,w.heap.size+1+1+1+1+1+1+1,rfl,⟨?_,?_,?_,?_,?_,?_,?_,?_⟩,?_⟩
 ·iterate 3 (refine (World.cell?_alloc_lt _ _ _ (by simp <;> omega)).trans ?_)
  refine (cell_new _ _ _ _ (by simp)).trans ?_
  rfl
 ·iterate 2 (refine (World.cell?_alloc_lt _ _ _ (by simp <;> omega)).trans ?_)
  refine (cell_new _ _ _ _ (by simp)).trans ?_
  rfl
 ·iterate 6 (refine (World.cell?_alloc_lt _ _ _ (by simp <;> omega)).trans ?_)
  refine (cell_new _ _ _ _ (by simp)).trans ?_
  rfl
 ·iterate 5 (refine (World.cell?_alloc_lt _ _ _ (by simp <;> omega)).trans ?_)
  refine (cell_new _ _ _ _ (by simp)).trans ?_
  rfl
 ·iterate 6 (refine (World.cell?_alloc_lt _ _ _ (by simp <;> omega)).trans ?_)
  refine (cell_new _ _ _ _ (by simp)).trans ?_
  rfl
 ·iterate 5 (refine (World.cell?_alloc_lt _ _ _ (by simp <;> omega)).trans ?_)
  refine (cell_new _ _ _ _ (by simp)).trans ?_
  rfl
 ·iterate 1 (refine (World.cell?_alloc_lt _ _ _ (by simp <;> omega)).trans ?_)
  refine (cell_new _ _ _ _ (by simp)).trans ?_
  rfl
 ·iterate 0 (refine (World.cell?_alloc_lt _ _ _ (by simp <;> omega)).trans ?_)
  refine (cell_new _ _ _ _ (by simp)).trans ?_
  rfl
 ·repeat (first | exact Below.refl _ _ | refine Below.alloc ?_ (by simp <;> omega) _)
theorem limits_17 (a b:Value) (w:World) :
 Calls Tryz.prog 275 #[.agg #[a,b,.int .i64 17]] w fun e w'=>∃ b0 b1 b2 b3,e = .returned (.agg #[limV b0,limV b1,limV b2,limV b3])/\Lims 17 b0 b1 b2 b3 w'/\Below w.heap.size w w':=by
 go_enter Tryz.func275,Tryz.ntmps275
 go_wp2_with (go_at_call 280;refine (within_any _ _ _).mono ?_;rintro e w' ⟨rfl,rfl⟩)
 refine bodyPost_ret (v:=.agg #[.func (.func 290) #[] #[.pointer (some ⟨w.heap.size+1+1+1+1+1,0,none⟩),.pointer (some ⟨w.heap.size+1+1+1+1+1+1,0,none⟩)],.func (.func 290) #[] #[.pointer (some ⟨w.heap.size+1+1,0,none⟩),.pointer (some ⟨w.heap.size+1+1+1,0,none⟩)],.func (.func 290) #[] #[.pointer (some ⟨w.heap.size+1+1+1+1+1+1+1,0,none⟩),.pointer (some ⟨w.heap.size+1+1+1+1+1+1+1+1,0,none⟩)],.func (.func 290) #[] #[.pointer (some ⟨w.heap.size+1+1,0,none⟩),.pointer (some ⟨w.heap.size+1+1+1,0,none⟩)]]) (by simp [results,Tryz.results275,go_sem]) rfl ⟨w.heap.size+1+1+1+1+1,w.heap.size+1+1,w.heap.size+1+1+1+1+1+1+1,w.heap.size+1+1,rfl,⟨?_,?_,?_,?_,?_,?_,?_,?_⟩,?_⟩
 ·iterate 3 (refine (World.cell?_alloc_lt _ _ _ (by simp <;> omega)).trans ?_)
  refine (cell_new _ _ _ _ (by simp)).trans ?_
  rfl
 ·iterate 2 (refine (World.cell?_alloc_lt _ _ _ (by simp <;> omega)).trans ?_)
  refine (cell_new _ _ _ _ (by simp)).trans ?_
  rfl
 ·iterate 6 (refine (World.cell?_alloc_lt _ _ _ (by simp <;> omega)).trans ?_)
  refine (cell_new _ _ _ _ (by simp)).trans ?_
  rfl
 ·iterate 5 (refine (World.cell?_alloc_lt _ _ _ (by simp <;> omega)).trans ?_)
  refine (cell_new _ _ _ _ (by simp)).trans ?_
  rfl
 ·iterate 1 (refine (World.cell?_alloc_lt _ _ _ (by simp <;> omega)).trans ?_)
  refine (cell_new _ _ _ _ (by simp)).trans ?_
  rfl
 ·iterate 0 (refine (World.cell?_alloc_lt _ _ _ (by simp <;> omega)).trans ?_)
  refine (cell_new _ _ _ _ (by simp)).trans ?_
  rfl
 ·iterate 6 (refine (World.cell?_alloc_lt _ _ _ (by simp <;> omega)).trans ?_)
  refine (cell_new _ _ _ _ (by simp)).trans ?_
  rfl
 ·iterate 5 (refine (World.cell?_alloc_lt _ _ _ (by simp <;> omega)).trans ?_)
  refine (cell_new _ _ _ _ (by simp)).trans ?_
  rfl
 ·repeat (first | exact Below.refl _ _ | refine Below.alloc ?_ (by simp <;> omega) _)
theorem limits_any (a b:Value) (k:Nat) (hk:k < 32) (w:World) :
 Calls Tryz.prog 275 #[.agg #[a,b,.int .i64 (O.mask k)]] w fun e w'=>∃ b0 b1 b2 b3,e = .returned (.agg #[limV b0,limV b1,limV b2,limV b3])/\Lims (O.mask k) b0 b1 b2 b3 w'/\Below w.heap.size w w':=by
 rcases O.mask_or k hk with h | h | h | h | h | h | h | h | h <;> rw [h]
 ·exact limits_0 a b w
 ·exact limits_1 a b w
 ·exact limits_2 a b w
 ·exact limits_3 a b w
 ·exact limits_5 a b w
 ·exact limits_7 a b w
 ·exact limits_8 a b w
 ·exact limits_9 a b w
 ·exact limits_17 a b w
theorem isDigit_any (c:UInt8) (w:World):Calls Tryz.prog 253 #[.int .u8 c.toNat] w fun e w'=>e = .returned (.bool (S.isDigit c))/\w'=w:=by
 by_cases h1:48<=c.toNat
 ·have h1':(48:Int)<=c.toNat:=by omega
  by_cases h2:c.toNat<=57
  ·have h2':(c.toNat:Int)<=57:=by omega
   have e:S.isDigit c=true:=by unfold S.isDigit;rw [decide_eq_true h1,decide_eq_true h2];rfl
   rw [e]
   clear e h1 h2
   go_enter Tryz.func253,Tryz.ntmps253
   go_wp2
   go_ret
   exact ⟨rfl,rfl⟩
  ·have h2':¬ (c.toNat:Int)<=57:=by omega
   have e:S.isDigit c=false:=by unfold S.isDigit;rw [decide_eq_false h2];simp
   rw [e]
   clear e h1 h2
   go_enter Tryz.func253,Tryz.ntmps253
   go_wp2
   go_ret
   exact ⟨rfl,rfl⟩
 ·have h1':¬ (48:Int)<=c.toNat:=by omega
  have e:S.isDigit c=false:=by unfold S.isDigit;rw [decide_eq_false h1];simp
  rw [e]
  clear e h1
  go_enter Tryz.func253,Tryz.ntmps253
  go_wp2
  go_ret
  exact ⟨rfl,rfl⟩
theorem reg_two (s:ByteArray) (c:UInt8) (hs:s.size=2) (h0:∀ h,s[0]'h=114) (h1:∀ h,s[1]'h=c) (hc:48<=c.toNat) (hc':c.toNat<=55) (w:World) :
 Calls Tryz.prog 197 #[.string s] w fun e w'=>e = .returned (.tuple #[.int .i64 ((c.toNat:Int) - 48),.bool true])/\w'=w:=by
 have g1:¬ (c.toNat:Int) < 48:=by omega
 have g2:¬ (55:Int) < c.toNat:=by omega
 go_enter Tryz.func197,Tryz.ntmps197
 go_wp2
 go_ret2
 exact ⟨rfl,rfl⟩
theorem reg_len (s:ByteArray) (hs:¬ (s.size:Int)=2) (w:World) :
 Calls Tryz.prog 197 #[.string s] w fun e w'=>e = .returned (.tuple #[.int .i64 0,.bool false])/\w'=w:=by
 have hs':((s.size:Int) == 2)=false:=by simpa using hs
 go_enter Tryz.func197,Tryz.ntmps197
 go_wp2
 go_ret2
 exact ⟨rfl,rfl⟩
theorem reg_r (s:ByteArray) (a:UInt8) (hs:s.size=2) (h0:∀ h,s[0]'h=a) (ha:¬ (a.toNat:Int)=114) (w:World) :
 Calls Tryz.prog 197 #[.string s] w fun e w'=>e = .returned (.tuple #[.int .i64 0,.bool false])/\w'=w:=by
 go_enter Tryz.func197,Tryz.ntmps197
 go_wp2
 go_ret2
 exact ⟨rfl,rfl⟩
theorem reg_lo (s:ByteArray) (c:UInt8) (hs:s.size=2) (h0:∀ h,s[0]'h=114) (h1:∀ h,s[1]'h=c) (hc:(c.toNat:Int) < 48) (w:World) :
 Calls Tryz.prog 197 #[.string s] w fun e w'=>e = .returned (.tuple #[.int .i64 0,.bool false])/\w'=w:=by
 go_enter Tryz.func197,Tryz.ntmps197
 go_wp2
 go_ret2
 exact ⟨rfl,rfl⟩
theorem reg_hi (s:ByteArray) (c:UInt8) (hs:s.size=2) (h0:∀ h,s[0]'h=114) (h1:∀ h,s[1]'h=c) (hc:¬ (c.toNat:Int) < 48) (hc':(55:Int) < c.toNat) (w:World) :
 Calls Tryz.prog 197 #[.string s] w fun e w'=>e = .returned (.tuple #[.int .i64 0,.bool false])/\w'=w:=by
 go_enter Tryz.func197,Tryz.ntmps197
 go_wp2
 go_ret2
 exact ⟨rfl,rfl⟩
def bs (s:ByteArray):List UInt8:=s.data.toList
theorem bs_len (s:ByteArray):(bs s).length=s.size:=rfl
theorem bs_get (s:ByteArray) (i:Nat) (c:UInt8) (h:(bs s)[i]? = some c):∀ h',s[i]'h'=c:=by
 intro h'
 obtain ⟨⟨l⟩⟩:=s
 have hl:i < l.length:=h'
 have:l[i]? = some c:=h
 rw [List.getElem?_eq_getElem hl] at this
 exact Option.some.inj this
theorem register_any (s:ByteArray) (w:World) :
 Calls Tryz.prog 197 #[.string s] w fun e w'=>e = .returned (.tuple #[.int .i64 ((S.reg (bs s)).getD 0),.bool (S.reg (bs s)).isSome])/\w'=w:=by
 by_cases hs:s.size=2
 ·have hl:=bs_len s
  rw [hs] at hl
  match hb:bs s,hl with
  | [a,c],_ =>
   have h0:=bs_get s 0 a (by rw [hb];rfl)
   have h1:=bs_get s 1 c (by rw [hb];rfl)
   by_cases ha:a=114
   ·subst ha
    by_cases hc:48<=c.toNat
    ·by_cases hc':c.toNat<=55
     ·have e:S.reg [114,c]=some ((c.toNat:Int) - 48):=by simp [S.reg,hc,hc']
      rw [e]
      exact reg_two s c hs h0 h1 hc hc' w
     ·have e:S.reg [114,c]=none:=by simp [S.reg];omega
      rw [e]
      exact reg_hi s c hs h0 h1 (by omega) (by omega) w
    ·have e:S.reg [114,c]=none:=by simp [S.reg];omega
     rw [e]
     exact reg_lo s c hs h0 h1 (by omega) w
   ·have e:S.reg [a,c]=none:=by simp [S.reg,ha]
    have ha':¬ (a.toNat:Int)=114:=by
     intro h
     exact ha (UInt8.toNat_inj.1 (by rw [show (114:UInt8).toNat=114 from rfl];omega))
    rw [e]
    exact reg_r s a hs h0 ha' w
 ·have hl:=bs_len s
  have e:S.reg (bs s)=none:=by
   unfold S.reg
   split
   ·rename_i h;rw [h] at hl;exact absurd hl.symm hs
   ·rfl
  rw [e]
  exact reg_len s (by omega) w
theorem name_0 (s:ByteArray) (hs:s.size=0) (w:World):Calls Tryz.prog 190 #[.string s] w fun e w'=>e = .returned (.bool false)/\w'=w:=by
 go_enter Tryz.func190,Tryz.ntmps190
 go_wp2
 go_ret
 exact ⟨rfl,rfl⟩
theorem name_long (s:ByteArray) (hs:¬ (s.size:Int) < 1) (hs':12 < (s.size:Int)) (w:World):Calls Tryz.prog 190 #[.string s] w fun e w'=>e = .returned (.bool false)/\w'=w:=by
 go_enter Tryz.func190,Tryz.ntmps190
 go_wp2
 go_ret
 exact ⟨rfl,rfl⟩
theorem name_digit (s:ByteArray) (c:UInt8) (hs:¬ (s.size:Int) < 1) (hs':¬ 12 < (s.size:Int)) (h0:∀ h,s[0]'h=c) (hd:S.isDigit c=true) (w:World):Calls Tryz.prog 190 #[.string s] w fun e w'=>e = .returned (.bool false)/\w'=w:=by
 have hs0:0 < s.size:=by omega
 go_enter Tryz.func190,Tryz.ntmps190
 go_wp2_with (go_at_call 253;refine (isDigit_any c _).mono ?_;rintro e w' ⟨rfl,rfl⟩)
 go_ret
 exact ⟨rfl,rfl⟩
def okN (l:List UInt8) (k:Nat):Prop:=(l.take k).all S.nameCh=true
theorem okN_step {l:List UInt8} {k:Nat} {c:UInt8} (h:okN l k) (hc:l[k]? = some c) (hn:S.nameCh c=true):okN l (k+1):=by
 unfold okN at h ⊢
 rw [List.take_add_one,hc]
 simp [h,hn]
theorem all_not {l:List UInt8} {k:Nat} {c:UInt8} (hc:l[k]? = some c) (hn:S.nameCh c=false):l.all S.nameCh=false:=by
 cases h:l.all S.nameCh
 ·rfl
 ·have:=List.all_eq_true.1 h c (List.mem_of_getElem? hc)
  rw [hn] at this;cases this
theorem name_loop (s:ByteArray) (c:UInt8) (hs:¬ (s.size:Int) < 1) (hs':¬ 12 < (s.size:Int)) (h0:∀ h,s[0]'h=c) (hd:S.isDigit c=false) (w:World) :
 Calls Tryz.prog 190 #[.string s] w fun e w'=>e = .returned (.bool ((bs s).all S.nameCh && (S.reg (bs s)).isNone))/\w'=w:=by
 have hs0:0 < s.size:=by omega
 have hl:=bs_len s
 go_enter Tryz.func190,Tryz.ntmps190
 go_wp2_with (go_at_call 253;refine (isDigit_any c _).mono ?_;rintro e w' ⟨rfl,rfl⟩)
 go_loop [21] (fun i=>∃ k:Nat,k<=s.size/\i = .int .i64 k/\okN (bs s) k) (fun i=>s.size - (intOf i).toNat)
 case atStart=>exact ⟨0,by omega,rfl,rfl⟩
 case round =>
  obtain ⟨k,hk,rfl,hok⟩:=hrel
  by_cases hlt:k < s.size
  ·have hlt':(k:Int) < s.size:=by omega
   obtain ⟨x,hx⟩:∃ x,(bs s)[k]? = some x:=⟨_,List.getElem?_eq_getElem (by omega)⟩
   have hkx:=bs_get s k x hx
   cases hxd:S.isDigit x
   ·by_cases h95:x=95
    ·subst h95
     go_wp2_with (go_at_call 253;refine (isDigit_any 95 _).mono ?_;rintro e w' ⟨rfl,rfl⟩)
     go_round
     case rel=>exact ⟨k+1,by omega,by go_num,okN_step hok hx rfl⟩
     case measure=>simp [intOf];omega
    ·have h95':¬ (x.toNat:Int)=95:=by
      intro h
      exact h95 (UInt8.toNat_inj.1 (by rw [show (95:UInt8).toNat=95 from rfl];omega))
     have h95b:(x == 95)=false:=by simpa using h95
     by_cases h1:(x.toNat:Int) < 97
     ·have hn:S.nameCh x=false:=by unfold S.nameCh;rw [hxd,h95b,decide_eq_false (by omega)];rfl
      go_wp2_with (go_at_call 253;refine (isDigit_any x _).mono ?_;rintro e w' ⟨rfl,rfl⟩)
      go_ret
      rw [all_not hx hn]
      exact ⟨rfl,rfl⟩
     ·by_cases h2:122 < (x.toNat:Int)
      ·have hn:S.nameCh x=false:=by unfold S.nameCh;rw [hxd,h95b,decide_eq_false (by omega:¬ x.toNat<=122)];simp
       go_wp2_with (go_at_call 253;refine (isDigit_any x _).mono ?_;rintro e w' ⟨rfl,rfl⟩)
       go_ret
       rw [all_not hx hn]
       exact ⟨rfl,rfl⟩
      ·have hn:S.nameCh x=true:=by unfold S.nameCh;rw [decide_eq_true (by omega:97<=x.toNat),decide_eq_true (by omega:x.toNat<=122)];simp
       go_wp2_with (go_at_call 253;refine (isDigit_any x _).mono ?_;rintro e w' ⟨rfl,rfl⟩)
       go_round
       case rel=>exact ⟨k+1,by omega,by go_num,okN_step hok hx hn⟩
       case measure=>simp [intOf];omega
   ·have hn:S.nameCh x=true:=by unfold S.nameCh;rw [hxd];rfl
    go_wp2_with (go_at_call 253;refine (isDigit_any x _).mono ?_;rintro e w' ⟨rfl,rfl⟩)
    go_round
    case rel=>exact ⟨k+1,by omega,by go_num,okN_step hok hx hn⟩
    case measure=>simp [intOf];omega
  ·have hk':k=s.size:=by omega
   subst hk'
   have ha:(bs s).all S.nameCh=true:=by
    unfold okN at hok
    rwa [List.take_of_length_le (by omega)] at hok
   go_wp2_with (go_at_call 197;refine (register_any s _).mono ?_;rintro e w' ⟨rfl,rfl⟩)
   go_ret
   rw [ha]
   cases S.reg (bs s) <;> exact ⟨rfl,rfl⟩
theorem asmName_any (s:ByteArray) (w:World):Calls Tryz.prog 190 #[.string s] w fun e w'=>e = .returned (.bool (S.nameOk (bs s)))/\w'=w:=by
 have hl:=bs_len s
 cases hb:bs s with
 | nil=>exact name_0 s (by rw [<- hl,hb];rfl) w
 | cons c r =>
  have hsz:0 < s.size:=by rw [<- hl,hb];simp
  have h0:=bs_get s 0 c (by rw [hb];rfl)
  unfold S.nameOk
  simp only
  rw [<- hb,hl]
  by_cases h12:s.size<=12
  ·rw [decide_eq_true h12]
   cases hd:S.isDigit c
   ·have:=name_loop s c (by omega) (by omega) h0 hd w
    simpa using this
   ·have:=name_digit s c (by omega) (by omega) h0 hd w
    simpa using this
  ·rw [decide_eq_false h12]
   exact name_long s (by omega) (by omega) w
theorem shapes_alloc {w:World} (h:shapesAt w) (o:Obj):shapesAt (w.alloc o):=h.kept ((Below.refl _ _).alloc (Nat.le_refl _) _)
theorem check_no (op d s n ww:Int) (h:O.isOp op=false) (w:World) (hs:shapesAt w) :
 Calls Tryz.prog 250 #[.agg #[.int .i64 op,.int .i64 d,.int .i64 s,.int .i64 n,.int .i64 ww]] w fun e w'=>e = .returned (.int .i64 5)/\Below w.heap.size w w':=by
 have HS:=hid hs
 clear hs
 have H:=hid h
 clear h
 go_enter Tryz.func250,Tryz.ntmps250
 go_wp2_with (go_at_call 155;refine (shape_no op H.out _ (shapes_alloc HS.out _)).mono ?_;rintro e w1 ⟨rfl,hb1⟩)
 go_ret
 exact ⟨rfl,stA (stp (stA (st0 _) _) hb1) _⟩
def okTo (h:Int) (v:Nat->Int) (j:Nat):Prop:=∀ i,i < j->O.inB h i (v i)=true
def vals (d s n w:Int) (i:Nat):Int:=if i=0 then d else if i=1 then s else if i=2 then n else w
theorem okTo_4 (k:Nat) (hk:k < 32) (d s n w:Int) (h:okTo (O.mask k) (vals d s n w) 4):O.okB k d s n w=true:=by
 have h0:O.inB (O.mask k) 0 d=true:=h 0 (by omega)
 have h1:O.inB (O.mask k) 1 s=true:=h 1 (by omega)
 have h2:O.inB (O.mask k) 2 n=true:=h 2 (by omega)
 have h3:O.inB (O.mask k) 3 w=true:=h 3 (by omega)
 rw [<- O.inB_all k hk,h0,h1,h2,h3];rfl
theorem okTo_not (k:Nat) (hk:k < 32) (d s n w:Int) (i:Nat) (hi:i < 4) (h:O.inB (O.mask k) i (vals d s n w i)=false):O.okB k d s n w=false:=by
 rw [<- O.inB_all k hk]
 have hc:i=0 \/ i=1 \/ i=2 \/ i=3:=by omega
 rcases hc with rfl | rfl | rfl | rfl
 ·have h':O.inB (O.mask k) 0 d=false:=h
  rw [h'];simp
 ·have h':O.inB (O.mask k) 1 s=false:=h
  rw [h'];simp
 ·have h':O.inB (O.mask k) 2 n=false:=h
  rw [h'];simp
 ·have h':O.inB (O.mask k) 3 w=false:=h
  rw [h'];simp
theorem ck_yes {k:Nat} (hk:k < 32) (h30:k ≠ 30) (d s n w:Int):O.ck k d s n w=if O.okB k d s n w then 0 else 3:=by
 unfold O.ck
 rw [if_pos ((O.isOp_iff _).2 (by omega))]
 rfl
end Go.Proofs.YtbhpfkjfijdmaaaGreatDoor
