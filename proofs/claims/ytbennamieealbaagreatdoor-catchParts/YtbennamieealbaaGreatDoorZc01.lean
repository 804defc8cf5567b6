/-
  Parts of a proof, joined.
-/
import Derived.Test.YtbennamieealbaaGreatDoorZc00
import Derived.WalkKit
import Derived.ProofKit
import Derived.OpenShut
import Derived.WalkSpells
import Derived.Outline
import Derived.Laws.EntriesVeiled
import Derived.Test.YtbennamieealbaaGreatDoorChecked
import GoSem.PinnedTables
import GoSem.Claim
import GoSem.ClaimJoined
import GoSem.ClaimMapViews
import Derived.JoinedTies
import Derived.KernelRfl
import Derived.Deep.RegionHeld3
set_option linter.unusedVariables false
set_option maxRecDepth 100000
set_option maxHeartbeats 1600000
namespace Go.Proofs.YtbennamieealbaaGreatDoor
open Go.ChangeShapes Go.WideShapes Go.ChangeAt Go.RowKit
theorem hid {p:Prop} (h:p):Hid p:=h
theorem ret_b {b b':Bool} (h:b=b'):Ending.returned (.bool b) = .returned (.bool b'):=by rw [h]
theorem stp {W a b:World} (h:Below W.heap.size W a) (hb:Below a.heap.size a b):Below W.heap.size W b:=h.trans (hb.mono h.size)
theorem stA {W a:World} (h:Below W.heap.size W a) (o:Obj):Below W.heap.size W (a.alloc o):=h.alloc h.size o
theorem st0 (W:World):Below W.heap.size W W:=Below.refl _ _
theorem bcell {W w1:World} (hb:Below W.heap.size W w1):(∀ b o,b<W.heap.size->w1.cell? ⟨b,o,none⟩=W.cell? ⟨b,o,none⟩)/\(∀ b o,b<W.heap.size->w1.frozen? ⟨b,o,none⟩=W.frozen? ⟨b,o,none⟩) :=
 ⟨λb o h=>hb.cell (p:=⟨b,o,none⟩) h,λb o h=>hb.frozen (p:=⟨b,o,none⟩) h⟩
theorem zaU (k:Nat) (hk:k<32) (h30:k≠30) (w:World) (hs:shapesAt w) :
 Calls Tryz.prog 209 #[.int .i64 k] w λe w'=>e = .returned (.tuple #[.agg #[.string (O.nameS k),.int .i64 (K.cyc k),.int .i64 (O.mask k)],.int .i64 0])/\Below w.heap.size w w':=by
 have hl:=hs.lt
 obtain ⟨c0,c1,c2⟩:=hs k hk
 have hn:(O.nameS k).toList.isEmpty=false:=(O.nameS_empty k hk).trans (by simpa using h30)
 clear hs
 go_enter Tryz.func209,Tryz.ntmps209
 go_wp2
 exact bodyPost_ret (v:=.tuple #[.agg #[.string (O.nameS k),.int .i64 (K.cyc k),.int .i64 (O.mask k)],.int .i64 0]) (by simp [results,Tryz.results209,go_sem]) rfl ⟨rfl,(Below.refl _ _).alloc (Nat.le_refl _) _⟩
theorem zft (op:Int) (h:O.isOp op=false) (w:World) (hs:shapesAt w) :
 Calls Tryz.prog 209 #[.int .i64 op] w λe w'=>e = .returned (.tuple #[.agg #[.string ⟨#[]⟩,.int .i64 0,.int .i64 0],.int .i64 5])/\Below w.heap.size w w':=by
 have hl:=hs.lt
 have h':¬ (0<=op/\op<=31/\op≠30):=λc=>by rw [(O.isOp_iff op).2 c] at h;cases h
 obtain ⟨c0,c1,c2⟩:=hs 30 (by omega)
 clear hs h
 have e30:O.nameS 30=⟨#[]⟩:=rfl
 rw [e30] at c0
 clear e30
 have hc:op<0 \/ 31<op \/ op=30:=by omega
 clear h'
 rcases hc with h|h|rfl
 ·go_enter Tryz.func209,Tryz.ntmps209
  go_wp2
  exact bodyPost_ret (v:=.tuple #[.agg #[.string ⟨#[]⟩,.int .i64 0,.int .i64 0],.int .i64 5]) (by simp [results,Tryz.results209,go_sem]) rfl ⟨rfl,(Below.refl _ _).alloc (Nat.le_refl _) _⟩
 ·have h2:¬ op<0:=by omega
  go_enter Tryz.func209,Tryz.ntmps209
  go_wp2
  exact bodyPost_ret (v:=.tuple #[.agg #[.string ⟨#[]⟩,.int .i64 0,.int .i64 0],.int .i64 5]) (by simp [results,Tryz.results209,go_sem]) rfl ⟨rfl,(Below.refl _ _).alloc (Nat.le_refl _) _⟩
 ·go_enter Tryz.func209,Tryz.ntmps209
  go_wp2
  exact bodyPost_ret (v:=.tuple #[.agg #[.string ⟨#[]⟩,.int .i64 0,.int .i64 0],.int .i64 5]) (by simp [results,Tryz.results209,go_sem]) rfl ⟨rfl,(Below.refl _ _).alloc (Nat.le_refl _) _⟩
def lenOf (h:Int):Int:=if h/8%2=1 then 2 else 1
theorem zaO (a b:Value) (k:Nat) (hk:k<32) (w:World) :
 Calls Tryz.prog 260 #[.agg #[a,b,.int .i64 (O.mask k)]] w λe w'=>e = .returned (.int .i64 (lenOf (O.mask k)))/\Below w.heap.size w w':=by
 rcases O.mask_or k hk with h|h|h|h|h|h|h|h|h <;> rw [h]
 all_goals
  clear h
  go_enter Tryz.func260,Tryz.ntmps260
  go_wp2
  go_ret
  exact ⟨rfl,(Below.refl _ _).alloc (Nat.le_refl _) _⟩
def limV (b:Nat):Value:=.func (.func 343) #[] #[.pointer (some ⟨b,0,none⟩),.pointer (some ⟨b+1,0,none⟩)]
theorem zaZ (l u:Int) (w:World) :
 Calls Tryz.prog 333 #[.int .i64 l,.int .i64 u] w λe w'=>e = .returned (.func (.func 343) #[] #[.pointer (some ⟨w.heap.size,0,none⟩),.pointer (some ⟨w.heap.size+1,0,none⟩)])/\w'=(w.alloc (.cells #[.int .i64 l] 3)).alloc (.cells #[.int .i64 u] 3):=by
 go_enter Tryz.func333,Tryz.ntmps333
 go_wp2
 go_ret
 exact ⟨rfl,rfl⟩
theorem zdh (l u x:Int) (b c:Nat) (w:World) (hl:w.cell? ⟨b,0,none⟩=some (.int .i64 l)) (hu:w.cell? ⟨c,0,none⟩=some (.int .i64 u)) :
 Calls Tryz.prog 343 #[.int .i64 x,.pointer (some ⟨b,0,none⟩),.pointer (some ⟨c,0,none⟩)] w λe w'=>e = .returned (.bool (O.inR l u x))/\w'=w:=by
 have e:∀ b,(decide (l<=x) && decide (x<=u))=b->Hid (O.inR l u x=b):=λ_ h=>h
 by_cases h1:l<=x <;> by_cases h2:x<=u
 ·have e:=e true (by simp [h1,h2])
  go_enter Tryz.func343,Tryz.ntmps343
  go_wp2
  go_ret
  rw [e.out]
  exact ⟨rfl,rfl⟩
 all_goals
  have e:=e false (by simp;omega)
  go_enter Tryz.func343,Tryz.ntmps343
  go_wp2
  go_ret
  rw [e.out]
  exact ⟨rfl,rfl⟩
theorem zai (w:World) (cs:Array Value) (t:TypeId) (b:Nat) (h:b=w.heap.size) {k:Nat}:(w.alloc (.cells cs t)).cell? ⟨b,k,none⟩=cs[k]?:=by subst h;exact World.cell?_alloc_new ..
structure Lims (h : Int) (b0 b1 b2 b3 : Nat) (w : World) : Prop where
 l0:w.cell? ⟨b0,0,none⟩=some (.int .i64 (O.lo h 0))
 u0:w.cell? ⟨b0+1,0,none⟩=some (.int .i64 (O.hi h 0))
 l1:w.cell? ⟨b1,0,none⟩=some (.int .i64 (O.lo h 1))
 u1:w.cell? ⟨b1+1,0,none⟩=some (.int .i64 (O.hi h 1))
 l2:w.cell? ⟨b2,0,none⟩=some (.int .i64 (O.lo h 2))
 u2:w.cell? ⟨b2+1,0,none⟩=some (.int .i64 (O.hi h 2))
 l3:w.cell? ⟨b3,0,none⟩=some (.int .i64 (O.lo h 3))
 u3:w.cell? ⟨b3+1,0,none⟩=some (.int .i64 (O.hi h 3))
theorem zno (a b:Value) (w:World) :
 Calls Tryz.prog 328 #[.agg #[a,b,.int .i64 0]] w λe w'=>∃ b0 b1 b2 b3,e = .returned (.agg #[limV b0,limV b1,limV b2,limV b3])/\Lims 0 b0 b1 b2 b3 w'/\Below w.heap.size w w':=by
 go_enter Tryz.func328,Tryz.ntmps328
 go_wp2_with (go_at_call 333;refine (zaZ _ _ _).mono ?_;rintro e w' ⟨rfl,rfl⟩)
 refine bodyPost_ret (v:=.agg #[.func (.func 343) #[] #[.pointer (some ⟨w.heap.size+1+1,0,none⟩),.pointer (some ⟨w.heap.size+1+1+1,0,none⟩)],.func (.func 343) #[] #[.pointer (some ⟨w.heap.size+1+1,0,none⟩),.pointer (some ⟨w.heap.size+1+1+1,0,none⟩)],.func (.func 343) #[] #[.pointer (some ⟨w.heap.size+1+1,0,none⟩),.pointer (some ⟨w.heap.size+1+1+1,0,none⟩)],.func (.func 343) #[] #[.pointer (some ⟨w.heap.size+1+1,0,none⟩),.pointer (some ⟨w.heap.size+1+1+1,0,none⟩)]]) (by simp [results,Tryz.results328,go_sem]) rfl ⟨w.heap.size+1+1,w.heap.size+1+1,w.heap.size+1+1,w.heap.size+1+1,rfl,⟨?_,?_,?_,?_,?_,?_,?_,?_⟩,?_⟩
 rotate_right 1
 ·repeat (first|exact Below.refl _ _|refine Below.alloc ?_ (by simp <;> omega) _)
 all_goals repeat (first|(refine (zai _ _ _ _ ?_).trans ?_;(focus (simp;done));rfl)|(refine (World.cell?_alloc_lt _ _ _ ?_).trans ?_;(focus (simp <;> omega))))
theorem znp (a b:Value) (w:World) :
 Calls Tryz.prog 328 #[.agg #[a,b,.int .i64 1]] w λe w'=>∃ b0 b1 b2 b3,e = .returned (.agg #[limV b0,limV b1,limV b2,limV b3])/\Lims 1 b0 b1 b2 b3 w'/\Below w.heap.size w w':=by
 go_enter Tryz.func328,Tryz.ntmps328
 go_wp2_with (go_at_call 333;refine (zaZ _ _ _).mono ?_;rintro e w' ⟨rfl,rfl⟩)
 refine bodyPost_ret (v:=.agg #[.func (.func 343) #[] #[.pointer (some ⟨w.heap.size+1+1+1+1+1,0,none⟩),.pointer (some ⟨w.heap.size+1+1+1+1+1+1,0,none⟩)],.func (.func 343) #[] #[.pointer (some ⟨w.heap.size+1+1,0,none⟩),.pointer (some ⟨w.heap.size+1+1+1,0,none⟩)],.func (.func 343) #[] #[.pointer (some ⟨w.heap.size+1+1,0,none⟩),.pointer (some ⟨w.heap.size+1+1+1,0,none⟩)],.func (.func 343) #[] #[.pointer (some ⟨w.heap.size+1+1,0,none⟩),.pointer (some ⟨w.heap.size+1+1+1,0,none⟩)]]) (by simp [results,Tryz.results328,go_sem]) rfl ⟨w.heap.size+1+1+1+1+1,w.heap.size+1+1,w.heap.size+1+1,w.heap.size+1+1,rfl,⟨?_,?_,?_,?_,?_,?_,?_,?_⟩,?_⟩
 rotate_right 1
 ·repeat (first|exact Below.refl _ _|refine Below.alloc ?_ (by simp <;> omega) _)
 all_goals repeat (first|(refine (zai _ _ _ _ ?_).trans ?_;(focus (simp;done));rfl)|(refine (World.cell?_alloc_lt _ _ _ ?_).trans ?_;(focus (simp <;> omega))))
theorem znq (a b:Value) (w:World) :
 Calls Tryz.prog 328 #[.agg #[a,b,.int .i64 2]] w λe w'=>∃ b0 b1 b2 b3,e = .returned (.agg #[limV b0,limV b1,limV b2,limV b3])/\Lims 2 b0 b1 b2 b3 w'/\Below w.heap.size w w':=by
 go_enter Tryz.func328,Tryz.ntmps328
 go_wp2_with (go_at_call 333;refine (zaZ _ _ _).mono ?_;rintro e w' ⟨rfl,rfl⟩)
 refine bodyPost_ret (v:=.agg #[.func (.func 343) #[] #[.pointer (some ⟨w.heap.size+1+1,0,none⟩),.pointer (some ⟨w.heap.size+1+1+1,0,none⟩)],.func (.func 343) #[] #[.pointer (some ⟨w.heap.size+1+1+1+1+1,0,none⟩),.pointer (some ⟨w.heap.size+1+1+1+1+1+1,0,none⟩)],.func (.func 343) #[] #[.pointer (some ⟨w.heap.size+1+1,0,none⟩),.pointer (some ⟨w.heap.size+1+1+1,0,none⟩)],.func (.func 343) #[] #[.pointer (some ⟨w.heap.size+1+1,0,none⟩),.pointer (some ⟨w.heap.size+1+1+1,0,none⟩)]]) (by simp [results,Tryz.results328,go_sem]) rfl ⟨w.heap.size+1+1,w.heap.size+1+1+1+1+1,w.heap.size+1+1,w.heap.size+1+1,rfl,⟨?_,?_,?_,?_,?_,?_,?_,?_⟩,?_⟩
 rotate_right 1
 ·repeat (first|exact Below.refl _ _|refine Below.alloc ?_ (by simp <;> omega) _)
 all_goals repeat (first|(refine (zai _ _ _ _ ?_).trans ?_;(focus (simp;done));rfl)|(refine (World.cell?_alloc_lt _ _ _ ?_).trans ?_;(focus (simp <;> omega))))
theorem znr (a b:Value) (w:World) :
 Calls Tryz.prog 328 #[.agg #[a,b,.int .i64 3]] w λe w'=>∃ b0 b1 b2 b3,e = .returned (.agg #[limV b0,limV b1,limV b2,limV b3])/\Lims 3 b0 b1 b2 b3 w'/\Below w.heap.size w w':=by
 go_enter Tryz.func328,Tryz.ntmps328
 go_wp2_with (go_at_call 333;refine (zaZ _ _ _).mono ?_;rintro e w' ⟨rfl,rfl⟩)
 refine bodyPost_ret (v:=.agg #[.func (.func 343) #[] #[.pointer (some ⟨w.heap.size+1+1+1+1+1,0,none⟩),.pointer (some ⟨w.heap.size+1+1+1+1+1+1,0,none⟩)],.func (.func 343) #[] #[.pointer (some ⟨w.heap.size+1+1+1+1+1+1+1,0,none⟩),.pointer (some ⟨w.heap.size+1+1+1+1+1+1+1+1,0,none⟩)],.func (.func 343) #[] #[.pointer (some ⟨w.heap.size+1+1,0,none⟩),.pointer (some ⟨w.heap.size+1+1+1,0,none⟩)],.func (.func 343) #[] #[.pointer (some ⟨w.heap.size+1+1,0,none⟩),.pointer (some ⟨w.heap.size+1+1+1,0,none⟩)]]) (by simp [results,Tryz.results328,go_sem]) rfl ⟨w.heap.size+1+1+1+1+1,w.heap.size+1+1+1+1+1+1+1,w.heap.size+1+1,w.heap.size+1+1,rfl,⟨?_,?_,?_,?_,?_,?_,?_,?_⟩,?_⟩
 rotate_right 1
 ·repeat (first|exact Below.refl _ _|refine Below.alloc ?_ (by simp <;> omega) _)
 all_goals repeat (first|(refine (zai _ _ _ _ ?_).trans ?_;(focus (simp;done));rfl)|(refine (World.cell?_alloc_lt _ _ _ ?_).trans ?_;(focus (simp <;> omega))))
theorem zns (a b:Value) (w:World) :
 Calls Tryz.prog 328 #[.agg #[a,b,.int .i64 5]] w λe w'=>∃ b0 b1 b2 b3,e = .returned (.agg #[limV b0,limV b1,limV b2,limV b3])/\Lims 5 b0 b1 b2 b3 w'/\Below w.heap.size w w':=by
 go_enter Tryz.func328,Tryz.ntmps328
 go_wp2_with (go_at_call 333;refine (zaZ _ _ _).mono ?_;rintro e w' ⟨rfl,rfl⟩)
 refine bodyPost_ret (v:=.agg #[.func (.func 343) #[] #[.pointer (some ⟨w.heap.size+1+1+1+1+1,0,none⟩),.pointer (some ⟨w.heap.size+1+1+1+1+1+1,0,none⟩)],.func (.func 343) #[] #[.pointer (some ⟨w.heap.size+1+1,0,none⟩),.pointer (some ⟨w.heap.size+1+1+1,0,none⟩)],.func (.func 343) #[] #[.pointer (some ⟨w.heap.size+1+1+1+1+1+1+1,0,none⟩),.pointer (some ⟨w.heap.size+1+1+1+1+1+1+1+1,0,none⟩)],.func (.func 343) #[] #[.pointer (some ⟨w.heap.size+1+1,0,none⟩),.pointer (some ⟨w.heap.size+1+1+1,0,none⟩)]]) (by simp [results,Tryz.results328,go_sem]) rfl ⟨w.heap.size+1+1+1+1+1,w.heap.size+1+1,w.heap.size+1+1+1+1+1+1+1,w.heap.size+1+1,rfl,⟨?_,?_,?_,?_,?_,?_,?_,?_⟩,?_⟩
 rotate_right 1
 ·repeat (first|exact Below.refl _ _|refine Below.alloc ?_ (by simp <;> omega) _)
 all_goals repeat (first|(refine (zai _ _ _ _ ?_).trans ?_;(focus (simp;done));rfl)|(refine (World.cell?_alloc_lt _ _ _ ?_).trans ?_;(focus (simp <;> omega))))
theorem znt (a b:Value) (w:World) :
 Calls Tryz.prog 328 #[.agg #[a,b,.int .i64 7]] w λe w'=>∃ b0 b1 b2 b3,e = .returned (.agg #[limV b0,limV b1,limV b2,limV b3])/\Lims 7 b0 b1 b2 b3 w'/\Below w.heap.size w w':=by
 go_enter Tryz.func328,Tryz.ntmps328
 go_wp2_with (go_at_call 333;refine (zaZ _ _ _).mono ?_;rintro e w' ⟨rfl,rfl⟩)
 refine bodyPost_ret (v:=.agg #[.func (.func 343) #[] #[.pointer (some ⟨w.heap.size+1+1+1+1+1,0,none⟩),.pointer (some ⟨w.heap.size+1+1+1+1+1+1,0,none⟩)],.func (.func 343) #[] #[.pointer (some ⟨w.heap.size+1+1+1+1+1+1+1,0,none⟩),.pointer (some ⟨w.heap.size+1+1+1+1+1+1+1+1,0,none⟩)],.func (.func 343) #[] #[.pointer (some ⟨w.heap.size+1+1+1+1+1+1+1+1+1,0,none⟩),.pointer (some ⟨w.heap.size+1+1+1+1+1+1+1+1+1+1,0,none⟩)],.func (.func 343) #[] #[.pointer (some ⟨w.heap.size+1+1,0,none⟩),.pointer (some ⟨w.heap.size+1+1+1,0,none⟩)]]) (by simp [results,Tryz.results328,go_sem]) rfl ⟨w.heap.size+1+1+1+1+1,w.heap.size+1+1+1+1+1+1+1,w.heap.size+1+1+1+1+1+1+1+1+1,w.heap.size+1+1,rfl,⟨?_,?_,?_,?_,?_,?_,?_,?_⟩,?_⟩
 rotate_right 1
 ·repeat (first|exact Below.refl _ _|refine Below.alloc ?_ (by simp <;> omega) _)
 all_goals repeat (first|(refine (zai _ _ _ _ ?_).trans ?_;(focus (simp;done));rfl)|(refine (World.cell?_alloc_lt _ _ _ ?_).trans ?_;(focus (simp <;> omega))))
theorem znu (a b:Value) (w:World) :
 Calls Tryz.prog 328 #[.agg #[a,b,.int .i64 8]] w λe w'=>∃ b0 b1 b2 b3,e = .returned (.agg #[limV b0,limV b1,limV b2,limV b3])/\Lims 8 b0 b1 b2 b3 w'/\Below w.heap.size w w':=by
 go_enter Tryz.func328,Tryz.ntmps328
 go_wp2_with (go_at_call 333;refine (zaZ _ _ _).mono ?_;rintro e w' ⟨rfl,rfl⟩)
 refine bodyPost_ret (v:=.agg #[.func (.func 343) #[] #[.pointer (some ⟨w.heap.size+1+1,0,none⟩),.pointer (some ⟨w.heap.size+1+1+1,0,none⟩)],.func (.func 343) #[] #[.pointer (some ⟨w.heap.size+1+1,0,none⟩),.pointer (some ⟨w.heap.size+1+1+1,0,none⟩)],.func (.func 343) #[] #[.pointer (some ⟨w.heap.size+1+1,0,none⟩),.pointer (some ⟨w.heap.size+1+1+1,0,none⟩)],.func (.func 343) #[] #[.pointer (some ⟨w.heap.size+1+1+1+1+1,0,none⟩),.pointer (some ⟨w.heap.size+1+1+1+1+1+1,0,none⟩)]]) (by simp [results,Tryz.results328,go_sem]) rfl ⟨w.heap.size+1+1,w.heap.size+1+1,w.heap.size+1+1,w.heap.size+1+1+1+1+1,rfl,⟨?_,?_,?_,?_,?_,?_,?_,?_⟩,?_⟩
 rotate_right 1
 ·repeat (first|exact Below.refl _ _|refine Below.alloc ?_ (by simp <;> omega) _)
 all_goals repeat (first|(refine (zai _ _ _ _ ?_).trans ?_;(focus (simp;done));rfl)|(refine (World.cell?_alloc_lt _ _ _ ?_).trans ?_;(focus (simp <;> omega))))
theorem znv (a b:Value) (w:World) :
 Calls Tryz.prog 328 #[.agg #[a,b,.int .i64 9]] w λe w'=>∃ b0 b1 b2 b3,e = .returned (.agg #[limV b0,limV b1,limV b2,limV b3])/\Lims 9 b0 b1 b2 b3 w'/\Below w.heap.size w w':=by
 go_enter Tryz.func328,Tryz.ntmps328
 go_wp2_with (go_at_call 333;refine (zaZ _ _ _).mono ?_;rintro e w' ⟨rfl,rfl⟩)
 refine bodyPost_ret (v:=.agg #[.func (.func 343) #[] #[.pointer (some ⟨w.heap.size+1+1+1+1+1,0,none⟩),.pointer (some ⟨w.heap.size+1+1+1+1+1+1,0,none⟩)],.func (.func 343) #[] #[.pointer (some ⟨w.heap.size+1+1,0,none⟩),.pointer (some ⟨w.heap.size+1+1+1,0,none⟩)],.func (.func 343) #[] #[.pointer (some ⟨w.heap.size+1+1,0,none⟩),.pointer (some ⟨w.heap.size+1+1+1,0,none⟩)],.func (.func 343) #[] #[.pointer (some ⟨w.heap.size+1+1+1+1+1+1+1,0,none⟩),.pointer (some ⟨w.heap.size+1+1+1+1+1+1+1+1,0,none⟩)]]) (by simp [results,Tryz.results328,go_sem]) rfl ⟨w.heap.size+1+1+1+1+1,w.heap.size+1+1,w.heap.size+1+1,w.heap.size+1+1+1+1+1+1+1,rfl,⟨?_,?_,?_,?_,?_,?_,?_,?_⟩,?_⟩
 rotate_right 1
 ·repeat (first|exact Below.refl _ _|refine Below.alloc ?_ (by simp <;> omega) _)
 all_goals repeat (first|(refine (zai _ _ _ _ ?_).trans ?_;(focus (simp;done));rfl)|(refine (World.cell?_alloc_lt _ _ _ ?_).trans ?_;(focus (simp <;> omega))))
theorem zku (a b:Value) (w:World) :
 Calls Tryz.prog 328 #[.agg #[a,b,.int .i64 17]] w λe w'=>∃ b0 b1 b2 b3,e = .returned (.agg #[limV b0,limV b1,limV b2,limV b3])/\Lims 17 b0 b1 b2 b3 w'/\Below w.heap.size w w':=by
 go_enter Tryz.func328,Tryz.ntmps328
 go_wp2_with (go_at_call 333;refine (zaZ _ _ _).mono ?_;rintro e w' ⟨rfl,rfl⟩)
 refine bodyPost_ret (v:=.agg #[.func (.func 343) #[] #[.pointer (some ⟨w.heap.size+1+1+1+1+1,0,none⟩),.pointer (some ⟨w.heap.size+1+1+1+1+1+1,0,none⟩)],.func (.func 343) #[] #[.pointer (some ⟨w.heap.size+1+1,0,none⟩),.pointer (some ⟨w.heap.size+1+1+1,0,none⟩)],.func (.func 343) #[] #[.pointer (some ⟨w.heap.size+1+1+1+1+1+1+1,0,none⟩),.pointer (some ⟨w.heap.size+1+1+1+1+1+1+1+1,0,none⟩)],.func (.func 343) #[] #[.pointer (some ⟨w.heap.size+1+1,0,none⟩),.pointer (some ⟨w.heap.size+1+1+1,0,none⟩)]]) (by simp [results,Tryz.results328,go_sem]) rfl ⟨w.heap.size+1+1+1+1+1,w.heap.size+1+1,w.heap.size+1+1+1+1+1+1+1,w.heap.size+1+1,rfl,⟨?_,?_,?_,?_,?_,?_,?_,?_⟩,?_⟩
 rotate_right 1
 ·repeat (first|exact Below.refl _ _|refine Below.alloc ?_ (by simp <;> omega) _)
 all_goals repeat (first|(refine (zai _ _ _ _ ?_).trans ?_;(focus (simp;done));rfl)|(refine (World.cell?_alloc_lt _ _ _ ?_).trans ?_;(focus (simp <;> omega))))
theorem zjt (a b:Value) (k:Nat) (hk:k<32) (w:World) :
 Calls Tryz.prog 328 #[.agg #[a,b,.int .i64 (O.mask k)]] w λe w'=>∃ b0 b1 b2 b3,e = .returned (.agg #[limV b0,limV b1,limV b2,limV b3])/\Lims (O.mask k) b0 b1 b2 b3 w'/\Below w.heap.size w w':=by
 rcases O.mask_or k hk with h|h|h|h|h|h|h|h|h <;> rw [h]
 ·exact zno a b w
 ·exact znp a b w
 ·exact znq a b w
 ·exact znr a b w
 ·exact zns a b w
 ·exact znt a b w
 ·exact znu a b w
 ·exact znv a b w
 ·exact zku a b w
theorem za3 (c:UInt8) (w:World):Calls Tryz.prog 303 #[.int .u8 c.toNat] w λe w'=>e = .returned (.bool (S.isDigit c))/\w'=w:=by
 by_cases h1:48<=c.toNat
 ·have h1':(48:Int)<=c.toNat:=by omega
  by_cases h2:c.toNat<=57
  ·have h2':(c.toNat:Int)<=57:=by omega
   have e:S.isDigit c=true:=by unfold S.isDigit;rw [decide_eq_true h1,decide_eq_true h2];rfl
   rw [e]
   clear e h1 h2
   go_enter Tryz.func303,Tryz.ntmps303
   go_wp2
   go_ret
   exact ⟨rfl,rfl⟩
  ·have h2':¬ (c.toNat:Int)<=57:=by omega
   have e:S.isDigit c=false:=by unfold S.isDigit;rw [decide_eq_false h2];simp
   rw [e]
   clear e h1 h2
   go_enter Tryz.func303,Tryz.ntmps303
   go_wp2
   go_ret
   exact ⟨rfl,rfl⟩
 ·have h1':¬ (48:Int)<=c.toNat:=by omega
  have e:S.isDigit c=false:=by unfold S.isDigit;rw [decide_eq_false h1];simp
  rw [e]
  clear e h1
  go_enter Tryz.func303,Tryz.ntmps303
  go_wp2
  go_ret
  exact ⟨rfl,rfl⟩
theorem zpM (s:ByteArray) (c:UInt8) (hs:s.size=2) (h0:∀ h,s[0]'h=114) (h1:∀ h,s[1]'h=c) (hc:48<=c.toNat) (hc':c.toNat<=55) (w:World) :
 Calls Tryz.prog 249 #[.string s] w λe w'=>e = .returned (.tuple #[.int .i64 ((c.toNat:Int)-48),.bool true])/\w'=w:=by
 have g1:¬ (c.toNat:Int)<48:=by omega
 have g2:¬ (55:Int)<c.toNat:=by omega
 go_enter Tryz.func249,Tryz.ntmps249
 go_wp2
 go_ret2
 exact ⟨rfl,rfl⟩
theorem zpN (s:ByteArray) (hs:¬ (s.size:Int)=2) (w:World) :
 Calls Tryz.prog 249 #[.string s] w λe w'=>e = .returned (.tuple #[.int .i64 0,.bool false])/\w'=w:=by
 have hs':((s.size:Int) == 2)=false:=by simpa using hs
 go_enter Tryz.func249,Tryz.ntmps249
 go_wp2
 go_ret2
 exact ⟨rfl,rfl⟩
theorem reg_r (s:ByteArray) (a:UInt8) (hs:s.size=2) (h0:∀ h,s[0]'h=a) (ha:¬ (a.toNat:Int)=114) (w:World) :
 Calls Tryz.prog 249 #[.string s] w λe w'=>e = .returned (.tuple #[.int .i64 0,.bool false])/\w'=w:=by
 go_enter Tryz.func249,Tryz.ntmps249
 go_wp2
 go_ret2
 exact ⟨rfl,rfl⟩
theorem zre (s:ByteArray) (c:UInt8) (hs:s.size=2) (h0:∀ h,s[0]'h=114) (h1:∀ h,s[1]'h=c) (hc:(c.toNat:Int)<48) (w:World) :
 Calls Tryz.prog 249 #[.string s] w λe w'=>e = .returned (.tuple #[.int .i64 0,.bool false])/\w'=w:=by
 go_enter Tryz.func249,Tryz.ntmps249
 go_wp2
 go_ret2
 exact ⟨rfl,rfl⟩
theorem zrf (s:ByteArray) (c:UInt8) (hs:s.size=2) (h0:∀ h,s[0]'h=114) (h1:∀ h,s[1]'h=c) (hc:¬ (c.toNat:Int)<48) (hc':(55:Int)<c.toNat) (w:World) :
 Calls Tryz.prog 249 #[.string s] w λe w'=>e = .returned (.tuple #[.int .i64 0,.bool false])/\w'=w:=by
 go_enter Tryz.func249,Tryz.ntmps249
 go_wp2
 go_ret2
 exact ⟨rfl,rfl⟩
def bs (s:ByteArray):List UInt8:=s.data.toList
theorem ziQ (s:ByteArray):(bs s).length=s.size:=rfl
theorem ziR (s:ByteArray) (i:Nat) (c:UInt8) (h:(bs s)[i]? = some c):∀ h',s[i]'h'=c:=by
 intro h'
 obtain ⟨⟨l⟩⟩:=s
 have hl:i<l.length:=h'
 have:l[i]? = some c:=h
 rw [List.getElem?_eq_getElem hl] at this
 exact Option.some.inj this
theorem zdi (s:ByteArray) (w:World) :
 Calls Tryz.prog 249 #[.string s] w λe w'=>e = .returned (.tuple #[.int .i64 ((S.reg (bs s)).getD 0),.bool (S.reg (bs s)).isSome])/\w'=w:=by
 by_cases hs:s.size=2
 ·have hl:=ziQ s
  rw [hs] at hl
  match hb:bs s,hl with
  | [a,c],_ =>
   have h0:=ziR s 0 a (by rw [hb];rfl)
   have h1:=ziR s 1 c (by rw [hb];rfl)
   by_cases ha:a=114
   ·subst ha
    by_cases hc:48<=c.toNat
    ·by_cases hc':c.toNat<=55
     ·have e:S.reg [114,c]=some ((c.toNat:Int)-48):=by simp [S.reg,hc,hc']
      rw [e]
      exact zpM s c hs h0 h1 hc hc' w
     ·have e:S.reg [114,c]=none:=by simp [S.reg];omega
      rw [e]
      exact zrf s c hs h0 h1 (by omega) (by omega) w
    ·have e:S.reg [114,c]=none:=by simp [S.reg];omega
     rw [e]
     exact zre s c hs h0 h1 (by omega) w
   ·have e:S.reg [a,c]=none:=by simp [S.reg,ha]
    have ha':¬ (a.toNat:Int)=114:=by
     intro h
     exact ha (UInt8.toNat_inj.1 (by rw [show (114:UInt8).toNat=114 from rfl];omega))
    rw [e]
    exact reg_r s a hs h0 ha' w
 ·have hl:=ziQ s
  have e:S.reg (bs s)=none:=by
   unfold S.reg
   split
   ·rename_i h;rw [h] at hl;exact absurd hl.symm hs
   ·rfl
  rw [e]
  exact zpN s (by omega) w
theorem zrg (s:ByteArray) (hs:s.size=0) (w:World):Calls Tryz.prog 242 #[.string s] w λe w'=>e = .returned (.bool false)/\w'=w:=by
 go_enter Tryz.func242,Tryz.ntmps242
 go_wp2
 go_ret
 exact ⟨rfl,rfl⟩
theorem zkv (s:ByteArray) (hs:¬ (s.size:Int)<1) (hs':12<(s.size:Int)) (w:World):Calls Tryz.prog 242 #[.string s] w λe w'=>e = .returned (.bool false)/\w'=w:=by
 go_enter Tryz.func242,Tryz.ntmps242
 go_wp2
 go_ret
 exact ⟨rfl,rfl⟩
theorem zju (s:ByteArray) (c:UInt8) (hs:¬ (s.size:Int)<1) (hs':¬ 12<(s.size:Int)) (h0:∀ h,s[0]'h=c) (hd:S.isDigit c=true) (w:World):Calls Tryz.prog 242 #[.string s] w λe w'=>e = .returned (.bool false)/\w'=w:=by
 have hs0:0<s.size:=by omega
 go_enter Tryz.func242,Tryz.ntmps242
 go_wp2_with (go_at_call 303;refine (za3 c _).mono ?_;rintro e w' ⟨rfl,rfl⟩)
 go_ret
 exact ⟨rfl,rfl⟩
def okN (l:List UInt8) (k:Nat):Prop:=(l.take k).all S.nameCh=true
theorem zfu {l:List UInt8} {k:Nat} {c:UInt8} (h:okN l k) (hc:l[k]? = some c) (hn:S.nameCh c=true):okN l (k+1):=by
 unfold okN at h ⊢
 rw [List.take_add_one,hc]
 simp [h,hn]
theorem zkw {l:List UInt8} {k:Nat} {c:UInt8} (hc:l[k]? = some c) (hn:S.nameCh c=false):l.all S.nameCh=false:=by
 cases h:l.all S.nameCh
 ·rfl
 ·have:=List.all_eq_true.1 h c (List.mem_of_getElem? hc)
  rw [hn] at this;cases this
theorem zkx (s:ByteArray) (c:UInt8) (hs:¬ (s.size:Int)<1) (hs':¬ 12<(s.size:Int)) (h0:∀ h,s[0]'h=c) (hd:S.isDigit c=false) (w:World) :
 Calls Tryz.prog 242 #[.string s] w λe w'=>e = .returned (.bool ((bs s).all S.nameCh && (S.reg (bs s)).isNone))/\w'=w:=by
 have hs0:0<s.size:=by omega
 have hl:=ziQ s
 go_enter Tryz.func242,Tryz.ntmps242
 go_wp2_with (go_at_call 303;refine (za3 c _).mono ?_;rintro e w' ⟨rfl,rfl⟩)
 go_loop [21] (λi=>∃ k:Nat,k<=s.size/\i = .int .i64 k/\okN (bs s) k) (λi=>s.size-(intOf i).toNat)
 case atStart=>exact ⟨0,by omega,rfl,rfl⟩
 case round =>
  obtain ⟨k,hk,rfl,hok⟩:=hrel
  by_cases hlt:k<s.size
  ·have hlt':(k:Int)<s.size:=by omega
   obtain ⟨x,hx⟩:∃ x,(bs s)[k]? = some x:=⟨_,List.getElem?_eq_getElem (by omega)⟩
   have hkx:=ziR s k x hx
   cases hxd:S.isDigit x
   ·by_cases h95:x=95
    ·subst h95
     go_wp2_with (go_at_call 303;refine (za3 95 _).mono ?_;rintro e w' ⟨rfl,rfl⟩)
     go_round
     case rel=>exact ⟨k+1,by omega,by go_num,zfu hok hx rfl⟩
     case measure=>simp [intOf];omega
    ·have h95':¬ (x.toNat:Int)=95:=by
      intro h
      exact h95 (UInt8.toNat_inj.1 (by rw [show (95:UInt8).toNat=95 from rfl];omega))
     have h95b:(x == 95)=false:=by simpa using h95
     by_cases h1:(x.toNat:Int)<97
     ·have hn:S.nameCh x=false:=by unfold S.nameCh;rw [hxd,h95b,decide_eq_false (by omega)];rfl
      go_wp2_with (go_at_call 303;refine (za3 x _).mono ?_;rintro e w' ⟨rfl,rfl⟩)
      go_ret
      rw [zkw hx hn]
      exact ⟨rfl,rfl⟩
     ·by_cases h2:122<(x.toNat:Int)
      ·have hn:S.nameCh x=false:=by unfold S.nameCh;rw [hxd,h95b,decide_eq_false (by omega:¬ x.toNat<=122)];simp
       go_wp2_with (go_at_call 303;refine (za3 x _).mono ?_;rintro e w' ⟨rfl,rfl⟩)
       go_ret
       rw [zkw hx hn]
       exact ⟨rfl,rfl⟩
      ·have hn:S.nameCh x=true:=by unfold S.nameCh;rw [decide_eq_true (by omega:97<=x.toNat),decide_eq_true (by omega:x.toNat<=122)];simp
       go_wp2_with (go_at_call 303;refine (za3 x _).mono ?_;rintro e w' ⟨rfl,rfl⟩)
       go_round
       case rel=>exact ⟨k+1,by omega,by go_num,zfu hok hx hn⟩
       case measure=>simp [intOf];omega
   ·have hn:S.nameCh x=true:=by unfold S.nameCh;rw [hxd];rfl
    go_wp2_with (go_at_call 303;refine (za3 x _).mono ?_;rintro e w' ⟨rfl,rfl⟩)
    go_round
    case rel=>exact ⟨k+1,by omega,by go_num,zfu hok hx hn⟩
    case measure=>simp [intOf];omega
  ·have hk':k=s.size:=by omega
   subst hk'
   have ha:(bs s).all S.nameCh=true:=by
    unfold okN at hok
    rwa [List.take_of_length_le (by omega)] at hok
   go_wp2_with (go_at_call 249;refine (zdi s _).mono ?_;rintro e w' ⟨rfl,rfl⟩)
   go_ret
   rw [ha]
   cases S.reg (bs s) <;> exact ⟨rfl,rfl⟩
theorem zcr (s:ByteArray) (w:World):Calls Tryz.prog 242 #[.string s] w λe w'=>e = .returned (.bool (S.nameOk (bs s)))/\w'=w:=by
 have hl:=ziQ s
 cases hb:bs s with
 | nil=>exact zrg s (by rw [<- hl,hb];rfl) w
 | cons c r =>
  have hsz:0<s.size:=by rw [<- hl,hb];simp
  have h0:=ziR s 0 c (by rw [hb];rfl)
  unfold S.nameOk
  simp only
  rw [<- hb,hl]
  by_cases h12:s.size<=12
  ·rw [decide_eq_true h12]
   cases hd:S.isDigit c
   ·have:=zkx s c (by omega) (by omega) h0 hd w
    simpa using this
   ·have:=zju s c (by omega) (by omega) h0 hd w
    simpa using this
  ·rw [decide_eq_false h12]
   exact zkv s (by omega) (by omega) w
theorem zah {w:World} (h:shapesAt w) (o:Obj):shapesAt (w.alloc o):=h.kept ((Below.refl _ _).alloc (Nat.le_refl _) _)
theorem znw (op d s n ww:Int) (h:O.isOp op=false) (w:World) (hs:shapesAt w) :
 Calls Tryz.prog 304 #[.agg #[.int .i64 op,.int .i64 d,.int .i64 s,.int .i64 n,.int .i64 ww]] w λe w'=>e = .returned (.int .i64 5)/\Below w.heap.size w w':=by
 have HS:=hid hs
 clear hs
 have H:=hid h
 clear h
 go_enter Tryz.func304,Tryz.ntmps304
 go_wp2_with (go_at_call 209;refine (zft op H.out _ (zah HS.out _)).mono ?_;rintro e w1 ⟨rfl,hb1⟩)
 go_ret
 exact ⟨rfl,stA (stp (stA (st0 _) _) hb1) _⟩
def okTo (h:Int) (v:Nat->Int) (j:Nat):Prop:=∀ i,i<j->O.inB h i (v i)=true
def vals (d s n w:Int) (i:Nat):Int:=if i=0 then d else if i=1 then s else if i=2 then n else w
theorem zrh (k:Nat) (hk:k<32) (d s n w:Int) (h:okTo (O.mask k) (vals d s n w) 4):O.okB k d s n w=true:=by
 have h0:O.inB (O.mask k) 0 d=true:=h 0 (by omega)
 have h1:O.inB (O.mask k) 1 s=true:=h 1 (by omega)
 have h2:O.inB (O.mask k) 2 n=true:=h 2 (by omega)
 have h3:O.inB (O.mask k) 3 w=true:=h 3 (by omega)
 rw [<- O.inB_all k hk,h0,h1,h2,h3];rfl
theorem zdw (k:Nat) (hk:k<32) (d s n w:Int) (i:Nat) (hi:i<4) (h:O.inB (O.mask k) i (vals d s n w i)=false):O.okB k d s n w=false:=by
 rw [<- O.inB_all k hk]
 have hc:i=0 \/ i=1 \/ i=2 \/ i=3:=by omega
 rcases hc with rfl|rfl|rfl|rfl
 ·have h':O.inB (O.mask k) 0 d=false:=h
  rw [h'];simp
 ·have h':O.inB (O.mask k) 1 s=false:=h
  rw [h'];simp
 ·have h':O.inB (O.mask k) 2 n=false:=h
  rw [h'];simp
 ·have h':O.inB (O.mask k) 3 w=false:=h
  rw [h'];simp
theorem zgV {k:Nat} (hk:k<32) (h30:k≠30) (d s n w:Int):O.ck k d s n w=if O.okB k d s n w then 0 else 3:=by
 unfold O.ck
 rw [if_pos ((O.isOp_iff _).2 (by omega))]
 rfl
theorem zcC {h:Int} {v:Nat->Int} {j:Nat} (a:okTo h v j) (b:O.inB h j (v j)=true):okTo h v (j+1):=λi hi=>by
 by_cases e:i<j
 ·exact a i e
 ·have:i=j:=by omega
  subst this;exact b
theorem zpO (x0 x1 x2 x3:Value) (w:World):(Instr.index 402 (.agg #[x0,x1,x2,x3]) (.int .i64 0)).run Tryz.prog w = .ok x0 w:=by kernel_rfl
theorem zpP (x0 x1 x2 x3:Value) (w:World):(Instr.index 402 (.agg #[x0,x1,x2,x3]) (.int .i64 1)).run Tryz.prog w = .ok x1 w:=by kernel_rfl
theorem zpQ (x0 x1 x2 x3:Value) (w:World):(Instr.index 402 (.agg #[x0,x1,x2,x3]) (.int .i64 2)).run Tryz.prog w = .ok x2 w:=by kernel_rfl
theorem zpR (x0 x1 x2 x3:Value) (w:World):(Instr.index 402 (.agg #[x0,x1,x2,x3]) (.int .i64 3)).run Tryz.prog w = .ok x3 w:=by kernel_rfl
theorem zky (k:Nat) (hk:k<32) (h30:k≠30) (d s n ww:Int) (w:World) (hs:shapesAt w) :
 Calls Tryz.prog 304 #[.agg #[.int .i64 k,.int .i64 d,.int .i64 s,.int .i64 n,.int .i64 ww]] w λe w'=>e = .returned (.int .i64 (O.ck k d s n ww))/\Below w.heap.size w w':=by
 have HS:=hid hs
 clear hs
 go_enter Tryz.func304,Tryz.ntmps304
 go_wp2_with (first
  | (go_at_call 209;refine (zaU k hk h30 _ (zah HS.out _)).mono ?_;rintro e w1 ⟨rfl,hb1⟩;obtain ⟨hc1,hf1⟩:=bcell hb1;have hz1:w.heap.size<w1.heap.size:=by have:=hb1.size;simp at this;omega)
  | (go_at_call 328;refine (zjt _ _ k hk _).mono ?_;rintro e w2 ⟨b0,b1,b2,b3,rfl,hL,hb2⟩;unfold limV;obtain ⟨hc2,hf2⟩:=bcell hb2))
 have hB:Below w.heap.size w w2:=stp (stA (stA (stp (stA (st0 _) _) hb1) _) _) hb2
 have v0:w2.cell? ⟨w1.heap.size+1,0,none⟩=some (.int .i64 d):=by rw [hc2 _ _ (by simp)];exact zai _ _ _ _ (by simp)
 have v1:w2.cell? ⟨w1.heap.size+1,1,none⟩=some (.int .i64 s):=by rw [hc2 _ _ (by simp)];exact zai _ _ _ _ (by simp)
 have v2:w2.cell? ⟨w1.heap.size+1,2,none⟩=some (.int .i64 n):=by rw [hc2 _ _ (by simp)];exact zai _ _ _ _ (by simp)
 have v3:w2.cell? ⟨w1.heap.size+1,3,none⟩=some (.int .i64 ww):=by rw [hc2 _ _ (by simp)];exact zai _ _ _ _ (by simp)
 clear hc1 hf1 hc2 hf2 hb1 hb2 HS
 obtain ⟨lo0,up0,lo1,up1,lo2,up2,lo3,up3⟩:=hL
 go_loop [28] (λi=>∃ j:Nat,j<=4/\i = .int .i64 j/\okTo (O.mask k) (vals d s n ww) j) (λi=>4-(intOf i).toNat)
 case atStart=>exact ⟨0,by omega,rfl,λi hi=>by omega⟩
 case round =>
  obtain ⟨j,hj,rfl,hok⟩:=hrel
  have OK:=hid hok
  clear hok
  have hcs:j=0 \/ j=1 \/ j=2 \/ j=3 \/ j=4:=by omega
  rcases hcs with rfl|rfl|rfl|rfl|rfl
  ·have i0:=zpO
   by_cases hin:O.inR (O.lo (O.mask k) 0) (O.hi (O.mask k) 0) d=true
   ·go_wp2_with (go_at_call 343;refine (zdh _ _ _ _ _ _ lo0 up0).mono ?_;rintro e w' ⟨rfl,rfl⟩)
    go_round
    case rel=>exact ⟨1,by omega,by go_num,zcC OK.out hin⟩
    case measure=>simp [intOf]
   ·have hin':O.inR (O.lo (O.mask k) 0) (O.hi (O.mask k) 0) d=false:=by simpa using hin
    have HC:=hid (zdw k hk d s n ww 0 (by omega) hin')
    clear hin
    go_wp2_with (go_at_call 343;refine (zdh _ _ _ _ _ _ lo0 up0).mono ?_;rintro e w' ⟨rfl,rfl⟩)
    go_ret
    rw [zgV hk h30,HC.out]
    exact ⟨rfl,hB⟩
  ·have i0:=zpP
   by_cases hin:O.inR (O.lo (O.mask k) 1) (O.hi (O.mask k) 1) s=true
   ·go_wp2_with (go_at_call 343;refine (zdh _ _ _ _ _ _ lo1 up1).mono ?_;rintro e w' ⟨rfl,rfl⟩)
    go_round
    case rel=>exact ⟨2,by omega,by go_num,zcC OK.out hin⟩
    case measure=>simp [intOf]
   ·have hin':O.inR (O.lo (O.mask k) 1) (O.hi (O.mask k) 1) s=false:=by simpa using hin
    have HC:=hid (zdw k hk d s n ww 1 (by omega) hin')
    clear hin
    go_wp2_with (go_at_call 343;refine (zdh _ _ _ _ _ _ lo1 up1).mono ?_;rintro e w' ⟨rfl,rfl⟩)
    go_ret
    rw [zgV hk h30,HC.out]
    exact ⟨rfl,hB⟩
  ·have i0:=zpQ
   by_cases hin:O.inR (O.lo (O.mask k) 2) (O.hi (O.mask k) 2) n=true
   ·go_wp2_with (go_at_call 343;refine (zdh _ _ _ _ _ _ lo2 up2).mono ?_;rintro e w' ⟨rfl,rfl⟩)
    go_round
    case rel=>exact ⟨3,by omega,by go_num,zcC OK.out hin⟩
    case measure=>simp [intOf]
   ·have hin':O.inR (O.lo (O.mask k) 2) (O.hi (O.mask k) 2) n=false:=by simpa using hin
    have HC:=hid (zdw k hk d s n ww 2 (by omega) hin')
    clear hin
    go_wp2_with (go_at_call 343;refine (zdh _ _ _ _ _ _ lo2 up2).mono ?_;rintro e w' ⟨rfl,rfl⟩)
    go_ret
    rw [zgV hk h30,HC.out]
    exact ⟨rfl,hB⟩
  ·have i0:=zpR
   by_cases hin:O.inR (O.lo (O.mask k) 3) (O.hi (O.mask k) 3) ww=true
   ·go_wp2_with (go_at_call 343;refine (zdh _ _ _ _ _ _ lo3 up3).mono ?_;rintro e w' ⟨rfl,rfl⟩)
    go_round
    case rel=>exact ⟨4,by omega,by go_num,zcC OK.out hin⟩
    case measure=>simp [intOf]
   ·have hin':O.inR (O.lo (O.mask k) 3) (O.hi (O.mask k) 3) ww=false:=by simpa using hin
    have HC:=hid (zdw k hk d s n ww 3 (by omega) hin')
    clear hin
    go_wp2_with (go_at_call 343;refine (zdh _ _ _ _ _ _ lo3 up3).mono ?_;rintro e w' ⟨rfl,rfl⟩)
    go_ret
    rw [zgV hk h30,HC.out]
    exact ⟨rfl,hB⟩
  ·have HC:=hid (zrh k hk d s n ww OK.out)
   go_wp2
   go_ret
   rw [zgV hk h30,HC.out]
   exact ⟨rfl,hB⟩
theorem zbZ (op d s n ww:Int) (w:World) (hs:shapesAt w) :
 Calls Tryz.prog 304 #[.agg #[.int .i64 op,.int .i64 d,.int .i64 s,.int .i64 n,.int .i64 ww]] w λe w'=>e = .returned (.int .i64 (O.ck op d s n ww))/\Below w.heap.size w w':=by
 cases h:O.isOp op
 ·refine (znw op d s n ww h w hs).mono λe w' hh=>⟨hh.1.trans ?_,hh.2⟩
  unfold O.ck;rw [h];rfl
 ·obtain ⟨h1,h2,h3⟩:=(O.isOp_iff op).1 h
  obtain ⟨k,rfl⟩:=Int.eq_ofNat_of_zero_le h1
  exact zky k (by omega) (by omega) d s n ww w hs
end Go.Proofs.YtbennamieealbaaGreatDoor
