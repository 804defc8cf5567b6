/-
  Parts of a proof, joined.
-/
import Derived.Test.YtbhpfkjfijdmaaaGreatDoorZy02
import Derived.Test.YtbhpfkjfijdmaaaGreatDoorZy01
import Derived.Shelf.Strings.Builder1
import Derived.Shelf.Strings.OnBuilder
import Derived.Shelf.Small.Wraps
import Derived.Shelf.LaysM
import Derived.Shelf.Strconv.Itoa3
import Derived.Shelf.LaysC
import Derived.Shelf.Strconv.AtoiAll
import Derived.Shelf.Strings.Cut
import Derived.Shelf.Strings.Count
import Derived.Shelf.Strings.Split
import Derived.Test.YtbhpfkjfijdmaaaGreatDoorProg
import Derived.Lib.SmallJoins
namespace Go.Proofs.YtbhpfkjfijdmaaaGreatDoor
open Go.ChangeShapes Go.WideShapes Go.ChangeAt Go.RowKit
set_option linter.unusedVariables false
set_option maxRecDepth 100000
set_option maxHeartbeats 1600000
theorem read_7 (k:Nat) (hk:k < 32) (h30:k ≠ 30) (hm:O.mask k=7) (a b:Int) (ha:0<=a) (ha':a<=65535) (hb:0<=b) (hb':b<=65535) (hak:a / 2048=k) (w:World) (hs:shapesAt w) :
 Calls Tryz.prog 184 #[.int .u16 a,.int .u16 b] w fun e w'=>e = .returned (.tuple #[.agg #[.int .i64 k,.int .i64 (a / 256 % 8),.int .i64 (a / 32 % 8),.int .i64 (M.low a 5),.int .i64 (0)],.int .i64 1])/\Below w.heap.size w w':=by
 have hwd:=words_any (.string (O.nameS k)) (.int .i64 (K.cyc k)) k hk
 have HS:=hid hs
 have HM:=hid hm
 have HW:=hid hwd
 rw [hm] at HW
 have eD:=(and_mod (a / 256) (by omega) (by omega)).1
 have eS:=(and_mod (a / 32) (by omega) (by omega)).1
 clear hs hm hwd
 go_enter Tryz.func184,Tryz.ntmps184
 go_wp2_with (first
  | (go_at_call 155;refine (shape_yes k hk h30 _ (shapes_alloc HS.out _)).mono ?_;rw [HM.out];rintro e w1 ⟨rfl,hb1⟩;obtain ⟨hc1,hf1⟩:=bcell hb1;have hz1:w.heap.size < w1.heap.size:=by have:=hb1.size;simp at this;omega)
  | (go_at_call 249;refine (signed_yes _ _ _ (by omega) (by omega) (by omega) (by omega)).mono ?_;rintro e w' ⟨rfl,rfl⟩))
 clear eD eS
 go_region_held3 (fun w'=>w'.cell? ⟨w1.heap.size,0,none⟩=some (.string (O.nameS k))/\w'.cell? ⟨w1.heap.size,1,none⟩=some (.int .i64 (K.cyc k))/\w'.cell? ⟨w1.heap.size,2,none⟩=some (.int .i64 7)/\w'.cell? ⟨w1.heap.size+1,0,none⟩=some (.int .i64 (k))/\w'.cell? ⟨w1.heap.size+1,1,none⟩=some (.int .i64 (a / 256 % 8))/\w'.cell? ⟨w1.heap.size+1,2,none⟩=some (.int .i64 (a / 32 % 8))/\w'.cell? ⟨w1.heap.size+1,3,none⟩=some (.int .i64 (M.low a 5))/\w'.cell? ⟨w1.heap.size+1,4,none⟩=some (.int .i64 (0)))
  (first
    | with_reducible exact held8 hb2
    | with_reducible exact held8s hz1 (by assumption)
    | (go_keep;done))
  ((go_at_call 206;refine (HW.out _).mono ?_;rintro e w2 ⟨rfl,hb2⟩;obtain ⟨hc2,hf2⟩:=newRes hb1 hb2))
 go_wp2
 refine bodyPost_ret (v:=.tuple #[.agg #[.int .i64 k,.int .i64 (a / 256 % 8),.int .i64 (a / 32 % 8),.int .i64 (M.low a 5),.int .i64 (0)],.int .i64 1]) (by simp [results,Tryz.results184,go_sem,hc2,lenOf]) rfl ⟨rfl,?_⟩
 exact (((((stp (stA (stA (stp (stA (st0 _) _) hb1) _) _).drew hb2).setCell (Nat.le_refl _) _).setCell (Nat.le_refl _) _).setCell (Nat.le_refl _) _).setCell (Nat.le_refl _) _).setCell (Nat.le_refl _) _
theorem read_8 (k:Nat) (hk:k < 32) (h30:k ≠ 30) (hm:O.mask k=8) (a b:Int) (ha:0<=a) (ha':a<=65535) (hb:0<=b) (hb':b<=65535) (hak:a / 2048=k) (w:World) (hs:shapesAt w) :
 Calls Tryz.prog 184 #[.int .u16 a,.int .u16 b] w fun e w'=>e = .returned (.tuple #[.agg #[.int .i64 k,.int .i64 (0),.int .i64 (0),.int .i64 (0),.int .i64 (b)],.int .i64 2])/\Below w.heap.size w w':=by
 have hwd:=words_any (.string (O.nameS k)) (.int .i64 (K.cyc k)) k hk
 have HS:=hid hs
 have HM:=hid hm
 have HW:=hid hwd
 rw [hm] at HW
 clear hs hm hwd
 go_enter Tryz.func184,Tryz.ntmps184
 go_wp2_with (first
  | (go_at_call 155;refine (shape_yes k hk h30 _ (shapes_alloc HS.out _)).mono ?_;rw [HM.out];rintro e w1 ⟨rfl,hb1⟩;obtain ⟨hc1,hf1⟩:=bcell hb1;have hz1:w.heap.size < w1.heap.size:=by have:=hb1.size;simp at this;omega))
 go_region_held3 (fun w'=>w'.cell? ⟨w1.heap.size,0,none⟩=some (.string (O.nameS k))/\w'.cell? ⟨w1.heap.size,1,none⟩=some (.int .i64 (K.cyc k))/\w'.cell? ⟨w1.heap.size,2,none⟩=some (.int .i64 8)/\w'.cell? ⟨w1.heap.size+1,0,none⟩=some (.int .i64 (k))/\w'.cell? ⟨w1.heap.size+1,1,none⟩=some (.int .i64 (0))/\w'.cell? ⟨w1.heap.size+1,2,none⟩=some (.int .i64 (0))/\w'.cell? ⟨w1.heap.size+1,3,none⟩=some (.int .i64 (0))/\w'.cell? ⟨w1.heap.size+1,4,none⟩=some (.int .i64 (b)))
  (first
    | with_reducible exact held8 hb2
    | with_reducible exact held8s hz1 (by assumption)
    | (go_keep;done))
  ((go_at_call 206;refine (HW.out _).mono ?_;rintro e w2 ⟨rfl,hb2⟩;obtain ⟨hc2,hf2⟩:=newRes hb1 hb2))
 go_wp2
 refine bodyPost_ret (v:=.tuple #[.agg #[.int .i64 k,.int .i64 (0),.int .i64 (0),.int .i64 (0),.int .i64 (b)],.int .i64 2]) (by simp [results,Tryz.results184,go_sem,hc2,lenOf]) rfl ⟨rfl,?_⟩
 exact (((((stp (stA (stA (stp (stA (st0 _) _) hb1) _) _).drew hb2).setCell (Nat.le_refl _) _).setCell (Nat.le_refl _) _).setCell (Nat.le_refl _) _).setCell (Nat.le_refl _) _).setCell (Nat.le_refl _) _
theorem read_9 (k:Nat) (hk:k < 32) (h30:k ≠ 30) (hm:O.mask k=9) (a b:Int) (ha:0<=a) (ha':a<=65535) (hb:0<=b) (hb':b<=65535) (hak:a / 2048=k) (w:World) (hs:shapesAt w) :
 Calls Tryz.prog 184 #[.int .u16 a,.int .u16 b] w fun e w'=>e = .returned (.tuple #[.agg #[.int .i64 k,.int .i64 (a / 256 % 8),.int .i64 (0),.int .i64 (0),.int .i64 (b)],.int .i64 2])/\Below w.heap.size w w':=by
 have hwd:=words_any (.string (O.nameS k)) (.int .i64 (K.cyc k)) k hk
 have HS:=hid hs
 have HM:=hid hm
 have HW:=hid hwd
 rw [hm] at HW
 have eD:=(and_mod (a / 256) (by omega) (by omega)).1
 clear hs hm hwd
 go_enter Tryz.func184,Tryz.ntmps184
 go_wp2_with (first
  | (go_at_call 155;refine (shape_yes k hk h30 _ (shapes_alloc HS.out _)).mono ?_;rw [HM.out];rintro e w1 ⟨rfl,hb1⟩;obtain ⟨hc1,hf1⟩:=bcell hb1;have hz1:w.heap.size < w1.heap.size:=by have:=hb1.size;simp at this;omega))
 clear eD
 go_region_held3 (fun w'=>w'.cell? ⟨w1.heap.size,0,none⟩=some (.string (O.nameS k))/\w'.cell? ⟨w1.heap.size,1,none⟩=some (.int .i64 (K.cyc k))/\w'.cell? ⟨w1.heap.size,2,none⟩=some (.int .i64 9)/\w'.cell? ⟨w1.heap.size+1,0,none⟩=some (.int .i64 (k))/\w'.cell? ⟨w1.heap.size+1,1,none⟩=some (.int .i64 (a / 256 % 8))/\w'.cell? ⟨w1.heap.size+1,2,none⟩=some (.int .i64 (0))/\w'.cell? ⟨w1.heap.size+1,3,none⟩=some (.int .i64 (0))/\w'.cell? ⟨w1.heap.size+1,4,none⟩=some (.int .i64 (b)))
  (first
    | with_reducible exact held8 hb2
    | with_reducible exact held8s hz1 (by assumption)
    | (go_keep;done))
  ((go_at_call 206;refine (HW.out _).mono ?_;rintro e w2 ⟨rfl,hb2⟩;obtain ⟨hc2,hf2⟩:=newRes hb1 hb2))
 go_wp2
 refine bodyPost_ret (v:=.tuple #[.agg #[.int .i64 k,.int .i64 (a / 256 % 8),.int .i64 (0),.int .i64 (0),.int .i64 (b)],.int .i64 2]) (by simp [results,Tryz.results184,go_sem,hc2,lenOf]) rfl ⟨rfl,?_⟩
 exact (((((stp (stA (stA (stp (stA (st0 _) _) hb1) _) _).drew hb2).setCell (Nat.le_refl _) _).setCell (Nat.le_refl _) _).setCell (Nat.le_refl _) _).setCell (Nat.le_refl _) _).setCell (Nat.le_refl _) _
theorem read_17 (k:Nat) (hk:k < 32) (h30:k ≠ 30) (hm:O.mask k=17) (a b:Int) (ha:0<=a) (ha':a<=65535) (hb:0<=b) (hb':b<=65535) (hak:a / 2048=k) (w:World) (hs:shapesAt w) :
 Calls Tryz.prog 184 #[.int .u16 a,.int .u16 b] w fun e w'=>e = .returned (.tuple #[.agg #[.int .i64 k,.int .i64 (a / 256 % 8),.int .i64 (0),.int .i64 (a % 16),.int .i64 (0)],.int .i64 1])/\Below w.heap.size w w':=by
 have hwd:=words_any (.string (O.nameS k)) (.int .i64 (K.cyc k)) k hk
 have HS:=hid hs
 have HM:=hid hm
 have HW:=hid hwd
 rw [hm] at HW
 have eD:=(and_mod (a / 256) (by omega) (by omega)).1
 have eN:=(and_mod a ha ha').2
 clear hs hm hwd
 go_enter Tryz.func184,Tryz.ntmps184
 go_wp2_with (first
  | (go_at_call 155;refine (shape_yes k hk h30 _ (shapes_alloc HS.out _)).mono ?_;rw [HM.out];rintro e w1 ⟨rfl,hb1⟩;obtain ⟨hc1,hf1⟩:=bcell hb1;have hz1:w.heap.size < w1.heap.size:=by have:=hb1.size;simp at this;omega))
 clear eD eN
 go_region_held3 (fun w'=>w'.cell? ⟨w1.heap.size,0,none⟩=some (.string (O.nameS k))/\w'.cell? ⟨w1.heap.size,1,none⟩=some (.int .i64 (K.cyc k))/\w'.cell? ⟨w1.heap.size,2,none⟩=some (.int .i64 17)/\w'.cell? ⟨w1.heap.size+1,0,none⟩=some (.int .i64 (k))/\w'.cell? ⟨w1.heap.size+1,1,none⟩=some (.int .i64 (a / 256 % 8))/\w'.cell? ⟨w1.heap.size+1,2,none⟩=some (.int .i64 (0))/\w'.cell? ⟨w1.heap.size+1,3,none⟩=some (.int .i64 (a % 16))/\w'.cell? ⟨w1.heap.size+1,4,none⟩=some (.int .i64 (0)))
  (first
    | with_reducible exact held8 hb2
    | with_reducible exact held8s hz1 (by assumption)
    | (go_keep;done))
  ((go_at_call 206;refine (HW.out _).mono ?_;rintro e w2 ⟨rfl,hb2⟩;obtain ⟨hc2,hf2⟩:=newRes hb1 hb2))
 go_wp2
 refine bodyPost_ret (v:=.tuple #[.agg #[.int .i64 k,.int .i64 (a / 256 % 8),.int .i64 (0),.int .i64 (a % 16),.int .i64 (0)],.int .i64 1]) (by simp [results,Tryz.results184,go_sem,hc2,lenOf]) rfl ⟨rfl,?_⟩
 exact (((((stp (stA (stA (stp (stA (st0 _) _) hb1) _) _).drew hb2).setCell (Nat.le_refl _) _).setCell (Nat.le_refl _) _).setCell (Nat.le_refl _) _).setCell (Nat.le_refl _) _).setCell (Nat.le_refl _) _
theorem lt_box {w w1:World} {o:Obj} (hb:Below (w.alloc o).heap.size (w.alloc o) w1):w.heap.size < w1.heap.size:=by have:=hb.size;simp at this;omega
theorem trapAt {w:World} (h:shapesAt w):w.cell? ⟨1,93,none⟩=some (.string (O.nameS 31))/\w.cell? ⟨1,94,none⟩=some (.int .i64 (K.cyc 31))/\w.cell? ⟨1,95,none⟩=some (.int .i64 0):=by
 obtain ⟨a,b,c⟩:=h 31 (by omega)
 exact ⟨a,b,c⟩
theorem read_trap (a b:Int) (ha:0<=a) (ha':a<=65535) (hb:0<=b) (hb':b<=65535) (hak:a / 2048=30) (w:World) (hs:shapesAt w) :
 Calls Tryz.prog 184 #[.int .u16 a,.int .u16 b] w fun e w'=>e = .returned (.tuple #[.agg #[.int .i64 31,.int .i64 0,.int .i64 0,.int .i64 0,.int .i64 0],.int .i64 1])/\Below w.heap.size w w':=by
 have HW:Hid (∀ w:World,Calls Tryz.prog 206 #[.agg #[.string (O.nameS 31),.int .i64 (K.cyc 31),.int .i64 0]] w fun e w'=>e = .returned (.int .i64 1)/\Below w.heap.size w w'):=fun w=>words_any (.string (O.nameS 31)) (.int .i64 (K.cyc 31)) 31 (by omega) w
 have HS:=hid hs
 have hg:1 < w.heap.size:=hs.lt
 clear hs
 go_enter Tryz.func184,Tryz.ntmps184
 go_wp2_with (first
  | (go_at_call 155;refine (shape_no 30 (by decide) _ (shapes_alloc HS.out _)).mono ?_;rintro e w1 ⟨rfl,hb1⟩;obtain ⟨c0,c1,c2⟩:=trapAt ((shapes_alloc HS.out _).kept hb1);have hz1:=lt_box hb1;have hg1:1 < w1.heap.size:=Nat.lt_trans hg hz1;have hg0:0 < w1.heap.size:=Nat.lt_of_le_of_lt (Nat.zero_le _) hg1))
 go_region_held3 (fun w'=>w'.cell? ⟨w1.heap.size,0,none⟩=some (.string (O.nameS 31))/\w'.cell? ⟨w1.heap.size,1,none⟩=some (.int .i64 (K.cyc 31))/\w'.cell? ⟨w1.heap.size,2,none⟩=some (.int .i64 0)/\w'.cell? ⟨w1.heap.size+1,0,none⟩=some (.int .i64 31)/\w'.cell? ⟨w1.heap.size+1,1,none⟩=some (.int .i64 0)/\w'.cell? ⟨w1.heap.size+1,2,none⟩=some (.int .i64 0)/\w'.cell? ⟨w1.heap.size+1,3,none⟩=some (.int .i64 0)/\w'.cell? ⟨w1.heap.size+1,4,none⟩=some (.int .i64 0))
  (first
    | with_reducible exact held8 hb2
    | with_reducible exact held8s hz1 (by assumption)
    | (go_keep;done))
  ((go_at_call 206;refine (HW.out _).mono ?_;rintro e w2 ⟨rfl,hb2⟩;obtain ⟨hc2,hf2⟩:=newRes hb1 hb2))
 go_wp2
 refine bodyPost_ret (v:=.tuple #[.agg #[.int .i64 31,.int .i64 0,.int .i64 0,.int .i64 0,.int .i64 0],.int .i64 1]) (by simp [results,Tryz.results184,go_sem,hc2]) rfl ⟨rfl,?_⟩
 exact (((((stp (stA (stA (stp (stA (st0 _) _) hb1) _) _).drew hb2).setCell (Nat.le_refl _) _).setCell (Nat.le_refl _) _).setCell (Nat.le_refl _) _).setCell (Nat.le_refl _) _).setCell (Nat.le_refl _) _
def orderV (a b:Int):Value:=.agg #[.int .i64 (O.rOp a),.int .i64 (O.rD a),.int .i64 (O.rS a),.int .i64 (O.rN a),.int .i64 (O.rW a b)]
theorem parts_of (k:Nat) (hk:k < 32) (a b:Int) (hr:O.rOp a=k) :
 O.rD a=(if O.mask k % 2=1 then a / 256 % 8 else 0)/\O.rS a=(if O.mask k / 2 % 2=1 then a / 32 % 8 else 0)/\O.rN a=(if O.mask k / 16 % 2=1 then a % 16 else if O.mask k / 4 % 2=1 then M.low a 5 else 0) /\
  O.rW a b=(if O.mask k / 8 % 2=1 then b else 0)/\O.rLen a=lenOf (O.mask k):=by
 have hkk:O.rk a=k:=by unfold O.rk;rw [hr];rfl
 have h:∀ k,k < 32->O.hasC k 100=decide (O.mask k % 2=1)/\O.hasC k 115=decide (O.mask k / 2 % 2=1)/\O.hasC k 119=decide (O.mask k / 8 % 2=1) /\
  (O.hasC k 110=(decide (O.mask k / 16 % 2=1) || decide (O.mask k / 4 % 2=1)))/\(decide (O.mask k / 16 % 2=1)=decide (k=12 \/ k=13)):=by decide +kernel
 obtain ⟨h1,h2,h3,h4,h5⟩:=h k hk
 unfold O.rD O.rS O.rN O.rW O.rLen lenOf
 rw [hkk,h1,h2,h3,h4]
 refine ⟨by simp only [decide_eq_true_eq],by simp only [decide_eq_true_eq],?_,by simp only [decide_eq_true_eq],by simp only [decide_eq_true_eq]⟩
 unfold O.nOf
 have h5':=decide_eq_decide.1 h5
 by_cases c:O.mask k / 16 % 2=1
 ·simp only [c,decide_true,Bool.true_or,if_true,if_pos (h5'.1 c)]
 ·have c':¬ (k=12 \/ k=13):=fun x=>c (h5'.2 x)
  rw [if_neg c',if_neg c,decide_eq_false c,O.low_5]
  simp only [Bool.false_or,decide_eq_true_eq]
theorem read_any (a b:Int) (ha:0<=a/\a<=65535) (hb:0<=b/\b<=65535) (w:World) (hs:shapesAt w) :
 Calls Tryz.prog 184 #[.int .u16 a,.int .u16 b] w fun e w'=>e = .returned (.tuple #[orderV a b,.int .i64 (O.rLen a)])/\Below w.heap.size w w':=by
 by_cases h30:a / 2048=30
 ·have hr:O.rOp a=((31:Nat):Int):=by unfold O.rOp;rw [if_pos h30];rfl
  obtain ⟨p1,p2,p3,p4,p5⟩:=parts_of 31 (by omega) a b hr
  have em:O.mask 31=0:=by decide +kernel
  rw [em] at p1 p2 p3 p4 p5
  unfold orderV
  rw [hr,p1,p2,p3,p4,p5]
  exact read_trap a b ha.1 ha.2 hb.1 hb.2 h30 w hs
 ·obtain ⟨k,hk⟩:=Int.eq_ofNat_of_zero_le (show 0<=a / 2048 by omega)
  have hr:O.rOp a=(k:Int):=by unfold O.rOp;rw [if_neg h30,hk]
  obtain ⟨p1,p2,p3,p4,p5⟩:=parts_of k (by omega) a b hr
  unfold orderV
  rw [hr,p1,p2,p3,p4,p5]
  clear p1 p2 p3 p4 p5
  rcases O.mask_or k (by omega) with h | h | h | h | h | h | h | h | h <;> rw [h]
  ·exact read_0 k (by omega) (by omega) h a b ha.1 ha.2 hb.1 hb.2 hk w hs
  ·exact read_1 k (by omega) (by omega) h a b ha.1 ha.2 hb.1 hb.2 hk w hs
  ·exact read_2 k (by omega) (by omega) h a b ha.1 ha.2 hb.1 hb.2 hk w hs
  ·exact read_3 k (by omega) (by omega) h a b ha.1 ha.2 hb.1 hb.2 hk w hs
  ·exact read_5 k (by omega) (by omega) h a b ha.1 ha.2 hb.1 hb.2 hk w hs
  ·exact read_7 k (by omega) (by omega) h a b ha.1 ha.2 hb.1 hb.2 hk w hs
  ·exact read_8 k (by omega) (by omega) h a b ha.1 ha.2 hb.1 hb.2 hk w hs
  ·exact read_9 k (by omega) (by omega) h a b ha.1 ha.2 hb.1 hb.2 hk w hs
  ·exact read_17 k (by omega) (by omega) h a b ha.1 ha.2 hb.1 hb.2 hk w hs
theorem Asname_yes (k:Nat) (hk:k < 32) (h30:k ≠ 30) (w:World) (hs:shapesAt w) :
 Calls Tryz.prog 106 #[.int .i64 k] w fun e w'=>e = .returned (.tuple #[.string (O.nameS k),.int .i64 0])/\Below w.heap.size w w':=by
 have HS:=hid hs
 clear hs
 go_enter Tryz.func106,Tryz.ntmps106
 go_wp2_with (go_at_call 155;refine (shape_yes k hk h30 _ HS.out).mono ?_;rintro e w1 ⟨rfl,hb1⟩)
 go_ret2
 exact ⟨rfl,stA hb1 _⟩
end Go.Proofs.YtbhpfkjfijdmaaaGreatDoor
namespace Go.Proofs
open Go.Shelf
def Tryz.lays169_ren:Go.Shelf.Ren:=⟨fun | 169=>62 | n=>n,fun | 70=>144 | 9=>9 | 0=>0 | 72=>146 | 37=>26 | 127=>192 | 3=>3 | 5=>5 | n=>n,fun | n=>n⟩
theorem Tryz.lays169:Go.Proofs.Lays.n169 Tryz.prog Tryz.lays169_ren:={
 mixed:=by kernel_rfl
 f169:=Tryz.func62.trans (congrArg some (by kernel_rfl))
 t0:=Tryz.underlying0
 a0:=Tryz.isAgg0
 z0:=Tryz.sizeOf0
 v0:=Tryz.zeroValue0
 t3:=Tryz.underlying3
 a3:=Tryz.isAgg3
 z3:=Tryz.sizeOf3
 v3:=Tryz.zeroValue3
 t9:=Tryz.underlying9
 a9:=Tryz.isAgg9
 z9:=Tryz.sizeOf9
 v9:=Tryz.zeroValue9
 t37:=Tryz.underlying26
 a37:=Tryz.isAgg26
 z37:=Tryz.sizeOf26
 v37:=Tryz.zeroValue26
 t70:=Tryz.underlying144
 a70:=Tryz.isAgg144
 z70:=Tryz.sizeOf144
 v70:=Tryz.zeroValue144
 t72:=Tryz.underlying146
 a72:=Tryz.isAgg146
 z72:=Tryz.sizeOf146
 v72:=Tryz.zeroValue146
 t127:=Tryz.underlying192
 a127:=Tryz.isAgg192
 z127:=Tryz.sizeOf192
 v127:=Tryz.zeroValue192 }
theorem Tryz.Builder_Extra_169:Builder.Extra Tryz.prog Tryz.lays169_ren:={
 sizeBuilder:=by kernel_rfl
 liesBuilder:=by kernel_rfl
 t5:=Tryz.underlying5
 a5:=Tryz.isAgg5
 z5:=Tryz.sizeOf5
 v5:=Tryz.zeroValue5
 infoByte:=by kernel_rfl
 cellsByte:=by kernel_rfl
 sizeByte:=by kernel_rfl
 neB5:=by decide }
open Go.RowKit in
theorem Tryz.Builder_String_any (B b:Nat) (l:List UInt8) (w:World) (h:Lib.IsBuilder 146 5 B b (Lib.byteCells l) w) (hBw:B<=w.heap.size) :
 Calls Tryz.prog 62 #[.pointer (some ⟨b,0,none⟩)] w fun e w'=>e = .returned (.string ⟨l.toArray⟩)/\Below B w w':=Any.Builder_String_any Tryz.lays169 Tryz.Builder_Extra_169 B b l w h hBw
def Tryz.lays156_ren:Go.Shelf.Ren:=⟨fun | 156=>251 | 165=>276 | 166=>59 | 169=>62 | 240=>101 | 241=>281 | 276=>148 | 277=>291 | n=>n,fun | 31=>186 | 9=>9 | 3=>3 | 4=>4 | 0=>0 | 20=>20 | 72=>146 | 76=>149 | 70=>144 | 37=>26 | 75=>148 | 127=>192 | 164=>223 | 5=>5 | 80=>153 | n=>n,fun | n=>n⟩
theorem Tryz.lays156:Go.Proofs.Lays.n156 Tryz.prog Tryz.lays156_ren:={
 mixed:=by kernel_rfl
 f156:=Tryz.func251.trans (congrArg some (by kernel_rfl))
 f165:=Tryz.func276.trans (congrArg some (by kernel_rfl))
 f166:=Tryz.func59.trans (congrArg some (by kernel_rfl))
 f169:=Tryz.func62.trans (congrArg some (by kernel_rfl))
 f240:=Tryz.func101.trans (congrArg some (by kernel_rfl))
 f241:=Tryz.func281.trans (congrArg some (by kernel_rfl))
 f276:=Tryz.func148.trans (congrArg some (by kernel_rfl))
 f277:=Tryz.func291.trans (congrArg some (by kernel_rfl))
 t0:=Tryz.underlying0
 a0:=Tryz.isAgg0
 z0:=Tryz.sizeOf0
 v0:=Tryz.zeroValue0
 t3:=Tryz.underlying3
 a3:=Tryz.isAgg3
 z3:=Tryz.sizeOf3
 v3:=Tryz.zeroValue3
 t4:=Tryz.underlying4
 a4:=Tryz.isAgg4
 z4:=Tryz.sizeOf4
 v4:=Tryz.zeroValue4
 t9:=Tryz.underlying9
 a9:=Tryz.isAgg9
 z9:=Tryz.sizeOf9
 v9:=Tryz.zeroValue9
 t20:=Tryz.underlying20
 a20:=Tryz.isAgg20
 z20:=Tryz.sizeOf20
 v20:=Tryz.zeroValue20
 t31:=Tryz.underlying186
 a31:=Tryz.isAgg186
 z31:=Tryz.sizeOf186
 v31:=Tryz.zeroValue186
 t37:=Tryz.underlying26
 a37:=Tryz.isAgg26
 z37:=Tryz.sizeOf26
 v37:=Tryz.zeroValue26
 t70:=Tryz.underlying144
 a70:=Tryz.isAgg144
 z70:=Tryz.sizeOf144
 v70:=Tryz.zeroValue144
 t72:=Tryz.underlying146
 a72:=Tryz.isAgg146
 z72:=Tryz.sizeOf146
 v72:=Tryz.zeroValue146
 t75:=Tryz.underlying148
 a75:=Tryz.isAgg148
 z75:=Tryz.sizeOf148
 v75:=Tryz.zeroValue148
 t76:=Tryz.underlying149
 a76:=Tryz.isAgg149
 z76:=Tryz.sizeOf149
 v76:=Tryz.zeroValue149
 t127:=Tryz.underlying192
 a127:=Tryz.isAgg192
 z127:=Tryz.sizeOf192
 v127:=Tryz.zeroValue192
 t164:=Tryz.underlying223
 a164:=Tryz.isAgg223
 z164:=Tryz.sizeOf223
 v164:=Tryz.zeroValue223 }
theorem Tryz.Builder_Extra_156:Builder.Extra Tryz.prog Tryz.lays156_ren:={
 sizeBuilder:=by kernel_rfl
 liesBuilder:=by kernel_rfl
 t5:=Tryz.underlying5
 a5:=Tryz.isAgg5
 z5:=Tryz.sizeOf5
 v5:=Tryz.zeroValue5
 infoByte:=by kernel_rfl
 cellsByte:=by kernel_rfl
 sizeByte:=by kernel_rfl
 neB5:=by decide }
open Go.RowKit in
theorem Tryz.strings_Join (bk o c:Nat) (xs:List ByteArray) (sep:ByteArray) (w:World) (hcells:∀ (j:Nat) x,xs[j]? = some x->w.cell? ⟨bk,o+j,none⟩=some (.string x)) (hbk:bk < w.heap.size) (hN:xs.length<=140737488355328) (hcap:xs.length<=c) (hlen:(Lib.join (xs.map (·.data.toList)) sep.data.toList).length<=140737488355328) :
 Calls Tryz.prog 251 #[.slice (some ⟨bk,o,none⟩) xs.length c,.string sep] w fun e w'=>e = .returned (.string ⟨(Lib.join (xs.map (·.data.toList)) sep.data.toList).toArray⟩)/\Below w.heap.size w w':=Any.strings_Join Tryz.lays156 Tryz.Builder_Extra_156 bk o c xs sep w hcells hbk hN hcap hlen
def Tryz.laysM171_ren:Go.Shelf.Ren:=⟨fun | 171=>102 | 243=>149 | 246=>183 | 283=>245 | 284=>246 | 285=>247 | 286=>248 | 129=>271 | 317=>270 | 318=>272 | 319=>273 | 320=>274 | 337=>278 | 338=>279 | n=>n,fun | 3=>3 | 9=>9 | 2=>2 | 4=>4 | 171=>318 | 0=>0 | 53=>311 | 37=>26 | 5=>5 | 173=>321 | 212=>340 | 51=>277 | 20=>20 | 213=>341 | 46=>227 | 232=>365 | 233=>366 | n=>n,fun | 17=>4 | 18=>7 | 19=>8 | n=>n⟩
theorem Tryz.laysM171:Go.Proofs.LaysM.n171 Tryz.prog Tryz.laysM171_ren:={
 mixed:=by kernel_rfl
 f129:=Tryz.func271.trans (congrArg some (by kernel_rfl))
 f171:=Tryz.func102.trans (congrArg some (by kernel_rfl))
 f243:=Tryz.func149.trans (congrArg some (by kernel_rfl))
 f246:=Tryz.func183.trans (congrArg some (by kernel_rfl))
 f283:=Tryz.func245.trans (congrArg some (by kernel_rfl))
 f284:=Tryz.func246.trans (congrArg some (by kernel_rfl))
 f285:=Tryz.func247.trans (congrArg some (by kernel_rfl))
 f286:=Tryz.func248.trans (congrArg some (by kernel_rfl))
 f317:=Tryz.func270.trans (congrArg some (by kernel_rfl))
 f318:=Tryz.func272.trans (congrArg some (by kernel_rfl))
 f319:=Tryz.func273.trans (congrArg some (by kernel_rfl))
 f320:=Tryz.func274.trans (congrArg some (by kernel_rfl))
 f337:=Tryz.func278.trans (congrArg some (by kernel_rfl))
 f338:=Tryz.func279.trans (congrArg some (by kernel_rfl))
 t0:=Tryz.underlying0
 a0:=Tryz.isAgg0
 z0:=Tryz.sizeOf0
 v0:=Tryz.zeroValue0
 t2:=Tryz.underlying2
 a2:=Tryz.isAgg2
 z2:=Tryz.sizeOf2
 v2:=Tryz.zeroValue2
 t3:=Tryz.underlying3
 a3:=Tryz.isAgg3
 z3:=Tryz.sizeOf3
 v3:=Tryz.zeroValue3
 t4:=Tryz.underlying4
 a4:=Tryz.isAgg4
 z4:=Tryz.sizeOf4
 v4:=Tryz.zeroValue4
 t5:=Tryz.underlying5
 a5:=Tryz.isAgg5
 z5:=Tryz.sizeOf5
 v5:=Tryz.zeroValue5
 t9:=Tryz.underlying9
 a9:=Tryz.isAgg9
 z9:=Tryz.sizeOf9
 v9:=Tryz.zeroValue9
 t20:=Tryz.underlying20
 a20:=Tryz.isAgg20
 z20:=Tryz.sizeOf20
 v20:=Tryz.zeroValue20
 t37:=Tryz.underlying26
 a37:=Tryz.isAgg26
 z37:=Tryz.sizeOf26
 v37:=Tryz.zeroValue26
 t46:=Tryz.underlying227
 a46:=Tryz.isAgg227
 z46:=Tryz.sizeOf227
 v46:=Tryz.zeroValue227
 t51:=Tryz.underlying277
 a51:=Tryz.isAgg277
 z51:=Tryz.sizeOf277
 v51:=Tryz.zeroValue277
 t53:=Tryz.underlying311
 a53:=Tryz.isAgg311
 z53:=Tryz.sizeOf311
 v53:=Tryz.zeroValue311
 t171:=Tryz.underlying318
 a171:=Tryz.isAgg318
 z171:=Tryz.sizeOf318
 v171:=Tryz.zeroValue318
 t173:=Tryz.underlying321
 a173:=Tryz.isAgg321
 z173:=Tryz.sizeOf321
 v173:=Tryz.zeroValue321
 t212:=Tryz.underlying340
 a212:=Tryz.isAgg340
 z212:=Tryz.sizeOf340
 v212:=Tryz.zeroValue340
 t213:=Tryz.underlying341
 a213:=Tryz.isAgg341
 z213:=Tryz.sizeOf341
 t232:=Tryz.underlying365
 a232:=Tryz.isAgg365
 z232:=Tryz.sizeOf365
 v232:=Tryz.zeroValue365
 t233:=Tryz.underlying366
 a233:=Tryz.isAgg366
 z233:=Tryz.sizeOf366
 v233:=Tryz.zeroValue366
 g17:=by kernel_rfl
 g18:=by kernel_rfl
 g19:=by kernel_rfl
 i0:=by kernel_rfl
 i2:=by kernel_rfl
 i3:=by kernel_rfl
 i4:=by kernel_rfl
 i5:=by kernel_rfl
 i9:=by kernel_rfl
 i20:=by kernel_rfl
 i37:=by kernel_rfl
 i46:=by kernel_rfl
 i51:=by kernel_rfl
 i53:=by kernel_rfl
 i171:=by kernel_rfl
 i173:=by kernel_rfl
 i212:=by kernel_rfl
 i232:=by kernel_rfl
 i233:=by kernel_rfl
 m17:=by kernel_rfl
 m18:=by kernel_rfl
 m19:=by kernel_rfl }
open Go.RowKit Go.Sort Go.Lib in
theorem Tryz.strconv_Itoa (n:Int) (h0:-9223372036854775808<=n) (h1:n<=9223372036854775807) (w:World) (htab:Lib.TabIs Tryz.prog w "internal/strconv.uint64pow10" .u64 Lib.pow10Tab) :
 Calls Tryz.prog 102 #[.int .i64 n] w fun e w'=>e = .returned (.string ⟨(Lib.itoa n).toArray⟩) /\ ∃ k os,w'=grow (w.drewN k) os:=Any.strconv_Itoa Tryz.laysM171 n h0 h1 w htab
def Tryz.lays145_ren:Go.Shelf.Ren:=⟨fun | 145=>57 | 220=>97 | 219=>105 | 217=>151 | 225=>152 | 224=>153 | 267=>154 | 266=>187 | 314=>188 | n=>n,fun | 9=>9 | 4=>4 | 59=>140 | 3=>3 | 5=>5 | 46=>227 | 146=>278 | 51=>277 | n=>n,fun | 1=>0 | n=>n⟩
theorem Tryz.lays145:Go.Proofs.Lays.n145 Tryz.prog Tryz.lays145_ren:={
 mixed:=by kernel_rfl
 f145:=Tryz.func57.trans (congrArg some (by kernel_rfl))
 f217:=Tryz.func151.trans (congrArg some (by kernel_rfl))
 f219:=Tryz.func105.trans (congrArg some (by kernel_rfl))
 f220:=Tryz.func97.trans (congrArg some (by kernel_rfl))
 f224:=Tryz.func153.trans (congrArg some (by kernel_rfl))
 f225:=Tryz.func152.trans (congrArg some (by kernel_rfl))
 f266:=Tryz.func187.trans (congrArg some (by kernel_rfl))
 f267:=Tryz.func154.trans (congrArg some (by kernel_rfl))
 f314:=Tryz.func188.trans (congrArg some (by kernel_rfl))
 t3:=Tryz.underlying3
 a3:=Tryz.isAgg3
 z3:=Tryz.sizeOf3
 v3:=Tryz.zeroValue3
 t4:=Tryz.underlying4
 a4:=Tryz.isAgg4
 z4:=Tryz.sizeOf4
 v4:=Tryz.zeroValue4
 t5:=Tryz.underlying5
 a5:=Tryz.isAgg5
 z5:=Tryz.sizeOf5
 v5:=Tryz.zeroValue5
 t9:=Tryz.underlying9
 a9:=Tryz.isAgg9
 z9:=Tryz.sizeOf9
 v9:=Tryz.zeroValue9
 t46:=Tryz.underlying227
 a46:=Tryz.isAgg227
 z46:=Tryz.sizeOf227
 v46:=Tryz.zeroValue227
 t51:=Tryz.underlying277
 a51:=Tryz.isAgg277
 z51:=Tryz.sizeOf277
 v51:=Tryz.zeroValue277
 t59:=Tryz.underlying140
 a59:=Tryz.isAgg140
 z59:=Tryz.sizeOf140
 v59:=Tryz.zeroValue140
 t146:=Tryz.underlying278
 a146:=Tryz.isAgg278
 z146:=Tryz.sizeOf278
 v146:=Tryz.zeroValue278
 g1:=by kernel_rfl }
open Go.RowKit Go.Lib in
theorem Tryz.strings_Cut (s sep:ByteArray) (m:Int) (w:World) (hs:s.size < 4294967281) (hm:w.cell? ⟨0,0,none⟩=some (.int .i64 m)) :
 Calls Tryz.prog 57 #[.string s,.string sep] w fun e w'=>e = .returned (.tuple #[.string ⟨(Lib.cut s.data.toList sep.data.toList).1.toArray⟩,.string ⟨(Lib.cut s.data.toList sep.data.toList).2.1.toArray⟩,.bool (Lib.cut s.data.toList sep.data.toList).2.2]) /\ ∃ n,w'=w.drewN n:=Any.strings_Cut Tryz.lays145 s sep m w hs hm
end Go.Proofs
namespace Go.Proofs.YtbhpfkjfijdmaaaGreatDoor
open Go.ChangeShapes Go.WideShapes Go.ChangeAt Go.RowKit
set_option linter.unusedVariables false
set_option maxRecDepth 100000
set_option maxHeartbeats 1600000
structure AF (w : World) : Prop where
 pow:Lib.TabIs Tryz.prog w "internal/strconv.uint64pow10" .u64 Lib.pow10Tab
 len:∃ m,w.cell? ⟨0,0,none⟩=some (.int .i64 m)
 shapes:shapesAt w
theorem g_pow:Tryz.prog.globalNamed "internal/strconv.uint64pow10" = some 4:=by kernel_rfl
theorem AF.kept {w w':World} (h:AF w) (hb:Below w.heap.size w w'):AF w':=by
 obtain ⟨t,⟨m,hm⟩,s⟩:=h
 exact ⟨Joins.tab_stays g_pow t hb (Nat.le_refl _),⟨m,(hb.cell (World.block_lt_of_cell? w _ hm)).trans hm⟩,s.kept hb⟩
theorem af_alloc {w:World} (h:AF w) (o:Obj):AF (w.alloc o):=h.kept (stA (st0 _) _)
def Asmk (l:List UInt8):ByteArray:=⟨l.toArray⟩
theorem mk_append (a b:List UInt8):Asmk a++Asmk b=Asmk (a++b):=by
 unfold Asmk
 apply ByteArray.ext
 rw [ByteArray.data_append]
 simp
theorem mk_size (l:List UInt8):(Asmk l).size=l.length:=rfl
theorem below_grow' (w:World) (k:Nat) (os:Array Obj):Below w.heap.size w (Sort.grow (w.drewN k) os):=by
 have h:∀ k,Below w.heap.size w (w.drewN k):=fun k=>by
  induction k with
  | zero=>exact st0 w
  | succ k ih=>exact ih.drew
 refine (h k).trans ⟨rfl,rfl,rfl,by simp [Sort.grow],fun i hi=>?_⟩
 have:(w.drewN k).heap.size=w.heap.size:=by simp
 show ((w.drewN k).heap++os)[i]? = _
 rw [Array.getElem?_append_left (by omega)]
theorem itoa_any (n:Int) (h0:-9223372036854775808<=n) (h1:n<=9223372036854775807) (w:World) (h:AF w) :
 Calls Tryz.prog 102 #[.int .i64 n] w fun e w'=>e = .returned (.string (Asmk (Lib.itoa n)))/\Below w.heap.size w w':=by
 refine (Tryz.strconv_Itoa n h0 h1 w h.pow).mono fun e w' ⟨he,k,os,hw⟩=>⟨he,?_⟩
 subst hw
 exact below_grow' w k os
def offP (p:Nat):Nat:=if p=0 then 1 else if p=1 then 2 else if p=2 then 4 else 3
theorem Asof_any (p:Nat) (hp:p < 4) (g:Nat) (w:World):Calls Tryz.prog 194 #[.int .i64 p,.pointer (some ⟨g,0,none⟩)] w fun e w'=>e = .returned (.pointer (some ⟨g,offP p,none⟩))/\w'=w:=by
 have hc:p=0 \/ p=1 \/ p=2 \/ p=3:=by omega
 rcases hc with rfl | rfl | rfl | rfl
 ·exact of_0 g w
 ·exact of_1 g w
 ·exact of_2 g w
 ·exact of_3 g w
def ordCells (k:Nat) (o:S.Ord):Array Value:=#[.int .i64 k,.int .i64 o.d,.int .i64 o.s,.int .i64 o.n,.int .i64 o.w]
theorem ordCell_at (k:Nat) (o:S.Ord) (p:Nat) (hp:p < 4):(ordCells k o)[offP p]? = some (.int .i64 (o.get p)):=by
 have hc:p=0 \/ p=1 \/ p=2 \/ p=3:=by omega
 rcases hc with rfl | rfl | rfl | rfl <;> rfl
theorem pcs_at {k j:Nat} {p:Nat} (h:(S.parts k)[j]? = some p):(pcs k 4)[j]? = some (.int .i64 p):=by
 unfold pcs
 rw [List.getElem?_map]
 have:((List.range 4).filter (fun p=>O.hasC k (S.sgn p)))[j]? = some p:=h
 rw [this];rfl
theorem pcs_len (k:Nat):(pcs k 4).length=(S.parts k).length:=by unfold pcs S.parts;rw [List.length_map]
theorem parts_lt {k j p:Nat} (h:(S.parts k)[j]? = some p):p < 4:=by
 have:=List.mem_of_getElem? h
 unfold S.parts at this
 have:=(List.mem_filter.1 this).1
 simpa using this
def tcs (k:Nat) (o:S.Ord) (j:Nat):List Value:=((S.parts k).take j).map (fun p=>Value.string (Asmk (S.partText o p)))
theorem tcs_step {k:Nat} {o:S.Ord} {j p:Nat} (h:(S.parts k)[j]? = some p):tcs k o (j+1)=tcs k o j++[.string (Asmk (S.partText o p))]:=by
 unfold tcs
 rw [List.take_add_one,h];simp
theorem info_string:(Tryz.prog.info? 9).map (fun i=>(i.zero,i.size,i.bytes))=some (some (.string ⟨#[]⟩),1,16):=by kernel_rfl
theorem parts_le (k:Nat):(S.parts k).length<=4:=by
 unfold S.parts
 exact Nat.le_trans (List.length_filter_le _ _) (by simp)
theorem get_bd {k:Nat} {o:S.Ord} (hok:O.okB k o.d o.s o.n o.w=true) (p:Nat):-16<=o.get p/\o.get p<=65535:=by
 obtain ⟨b1,b2,b3,b4⟩:=O.ok_bd hok
 unfold S.Ord.get
 split
 ·omega
 ·split
  ·omega
  ·split <;> omega
theorem partText_r (o:S.Ord) (p:Nat) (h:p=0 \/ p=1):Asmk (S.partText o p)=Asmk [114]++Asmk (Lib.itoa (o.get p)):=by
 unfold S.partText;rw [if_pos h,mk_append];rfl
theorem partText_n (o:S.Ord) (p:Nat) (h:¬ (p=0 \/ p=1)):Asmk (S.partText o p)=Asmk (Lib.itoa (o.get p)):=by
 unfold S.partText;rw [if_neg h]
theorem Asrow_slice {w:World} {B:Nat} {t:TypeId} {v:Value} {n:Nat} {xs:List Value} (h:w.ownsRow B t 1 v n xs) (hn:0 < n):∃ g cap,v = .slice (some ⟨g,0,none⟩) n cap/\B<=g/\g < w.heap.size/\n<=cap /\ ∀ j,j < n->w.cell? ⟨g,j,none⟩=xs[j]?:=by
 obtain ⟨hl,h⟩:=h
 rcases h with ⟨_,h0⟩ | ⟨g,cap,cur,rfl,hB,hb,hc,_,hs,ht⟩
 ·omega
 ·refine ⟨g,cap,rfl,hB,(Array.getElem?_eq_some_iff.1 hb).1,hc,fun j hj=>?_⟩
  simp only [World.cell?,hb]
  have hj':j < cur.size:=by rw [hs];omega
  rw [<- ht,List.getElem?_take_of_lt (by omega)]
  simp [hj']
theorem itoa_len (n:Int) (h:n.natAbs < 1000000):(Lib.itoa n).length<=7:=by
 have h6:∀ u,u < 1000000->(Lib.decDigits u).length<=6:=fun u hu=>by
  have hlen:∀ d u,u < 10 ^ (d+1)->(Lib.decDigits u).length<=d+1:=by
   intro d
   induction d with
   | zero=>intro u hu;rw [S.dec_small u (by simpa using hu)];simp
   | succ d ih =>
    intro u hu
    rw [Lib.decDigits]
    split
    ·simp
    ·rw [List.length_append]
     have:=ih (u / 10) (by rw [Nat.pow_succ] at hu;omega)
     simp;omega
  exact hlen 5 u (by simpa using hu)
 unfold Lib.itoa
 split
 ·have:=h6 n.natAbs h;simp;omega
 ·have:=h6 n.toNat (by omega);omega
theorem join_len:∀ ps:List S.By,(∀ p ∈ ps,p.length<=10)->(Lib.join ps S.comma).length<=12 * ps.length
 | [],_=>by simp [Lib.join,List.intercalate]
 | [p],h=>by rw [S.join_one];have:=h p (by simp);simp;omega
 | p :: q :: ps,h=>by
  have ih:=join_len (q :: ps) (fun x hx=>h x (List.mem_cons_of_mem _ hx))
  have hp:=h p (by simp)
  rw [S.join_cons]
  simp only [List.length_append,List.length_cons] at ih ⊢
  omega
theorem partText_len {k:Nat} {o:S.Ord} (hok:O.okB k o.d o.s o.n o.w=true) (p:Nat):(S.partText o p).length<=10:=by
 have h1:=get_bd hok p
 have h2:=itoa_len (o.get p) (by omega)
 unfold S.partText
 split
 ·simp;omega
 ·omega
theorem join_small {k:Nat} {o:S.Ord} (hok:O.okB k o.d o.s o.n o.w=true):(Lib.join ((S.parts k).map (S.partText o)) S.comma).length<=48:=by
 have h4:=parts_le k
 have:=join_len ((S.parts k).map (S.partText o)) (fun p hp=>by obtain ⟨q,_,rfl⟩:=List.mem_map.1 hp;exact partText_len hok q)
 rw [List.length_map] at this
 omega
end Go.Proofs.YtbhpfkjfijdmaaaGreatDoor
