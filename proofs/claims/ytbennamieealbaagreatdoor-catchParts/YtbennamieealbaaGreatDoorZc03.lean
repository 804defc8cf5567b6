/-
  Parts of a proof, joined.
-/
import Derived.Test.YtbennamieealbaaGreatDoorZc02
import Derived.Test.YtbennamieealbaaGreatDoorZc01
import Derived.Shelf.Small.Wraps
import Derived.Shelf.LaysM
import Derived.Shelf.Strconv.Itoa3
import Derived.Shelf.LaysC
import Derived.Shelf.Strconv.AtoiAll
import Derived.Shelf.Strings.Cut
import Derived.Shelf.Strings.Count
import Derived.Shelf.Strings.Split
import Derived.Test.YtbennamieealbaaGreatDoorProg
import Derived.Lib.SmallJoins
import Derived.Deep.QuietTactic
import Derived.BigQuiet
set_option linter.unusedVariables false
set_option maxRecDepth 100000
set_option maxHeartbeats 1600000
namespace Go.Proofs.YtbennamieealbaaGreatDoor
open Go.ChangeShapes Go.WideShapes Go.ChangeAt Go.RowKit
theorem zro (k:Nat) (hk:k<32) (h30:k≠30) (hm:O.mask k=7) (a b:Int) (ha:0<=a) (ha':a<=65535) (hb:0<=b) (hb':b<=65535) (hak:a/2048=k) (w:World) (hs:shapesAt w) :
 Calls Tryz.prog 259 #[.int .u16 a,.int .u16 b] w λe w'=>e = .returned (.tuple #[.agg #[.int .i64 k,.int .i64 (a/256%8),.int .i64 (a/32%8),.int .i64 (M.low a 5),.int .i64 (0)],.int .i64 1])/\Below w.heap.size w w':=by
 have hwd:=zaO (.string (O.nameS k)) (.int .i64 (K.cyc k)) k hk
 have HS:=hid hs
 have HM:=hid hm
 have HW:=hid hwd
 rw [hm] at HW
 have eD:=(zbJ (a/256) (by omega) (by omega)).1
 have eS:=(zbJ (a/32) (by omega) (by omega)).1
 clear hs hm hwd
 go_enter Tryz.func259,Tryz.ntmps259
 go_wp2_with (first
  | (go_at_call 209;refine (zaU k hk h30 _ (zah HS.out _)).mono ?_;rw [HM.out];rintro e w1 ⟨rfl,hb1⟩;obtain ⟨hc1,hf1⟩:=bcell hb1;have hz1:w.heap.size<w1.heap.size:=by have:=hb1.size;simp at this;omega)
  | (go_at_call 315;refine (zb9 _ _ _ (by omega) (by omega) (by omega) (by omega)).mono ?_;rintro e w' ⟨rfl,rfl⟩))
 clear eD eS
 go_region_held3 (λw'=>w'.cell? ⟨w1.heap.size,0,none⟩=some (.string (O.nameS k))/\w'.cell? ⟨w1.heap.size,1,none⟩=some (.int .i64 (K.cyc k))/\w'.cell? ⟨w1.heap.size,2,none⟩=some (.int .i64 7)/\w'.cell? ⟨w1.heap.size+1,0,none⟩=some (.int .i64 (k))/\w'.cell? ⟨w1.heap.size+1,1,none⟩=some (.int .i64 (a/256%8))/\w'.cell? ⟨w1.heap.size+1,2,none⟩=some (.int .i64 (a/32%8))/\w'.cell? ⟨w1.heap.size+1,3,none⟩=some (.int .i64 (M.low a 5))/\w'.cell? ⟨w1.heap.size+1,4,none⟩=some (.int .i64 (0)))
  (first
    | with_reducible exact held8 hb2
    | with_reducible exact held8s hz1 (by assumption)
    | (go_keep;done))
  ((go_at_call 260;refine (HW.out _).mono ?_;rintro e w2 ⟨rfl,hb2⟩;obtain ⟨hc2,hf2⟩:=newRes hb1 hb2))
 go_wp2
 refine bodyPost_ret (v:=.tuple #[.agg #[.int .i64 k,.int .i64 (a/256%8),.int .i64 (a/32%8),.int .i64 (M.low a 5),.int .i64 (0)],.int .i64 1]) (by simp [results,Tryz.results259,go_sem,hc2,lenOf]) rfl ⟨rfl,?_⟩
 exact (((((stp (stA (stA (stp (stA (st0 _) _) hb1) _) _).drew hb2).setCell (Nat.le_refl _) _).setCell (Nat.le_refl _) _).setCell (Nat.le_refl _) _).setCell (Nat.le_refl _) _).setCell (Nat.le_refl _) _
theorem zrp (k:Nat) (hk:k<32) (h30:k≠30) (hm:O.mask k=8) (a b:Int) (ha:0<=a) (ha':a<=65535) (hb:0<=b) (hb':b<=65535) (hak:a/2048=k) (w:World) (hs:shapesAt w) :
 Calls Tryz.prog 259 #[.int .u16 a,.int .u16 b] w λe w'=>e = .returned (.tuple #[.agg #[.int .i64 k,.int .i64 (0),.int .i64 (0),.int .i64 (0),.int .i64 (b)],.int .i64 2])/\Below w.heap.size w w':=by
 have hwd:=zaO (.string (O.nameS k)) (.int .i64 (K.cyc k)) k hk
 have HS:=hid hs
 have HM:=hid hm
 have HW:=hid hwd
 rw [hm] at HW
 clear hs hm hwd
 go_enter Tryz.func259,Tryz.ntmps259
 go_wp2_with (first
  | (go_at_call 209;refine (zaU k hk h30 _ (zah HS.out _)).mono ?_;rw [HM.out];rintro e w1 ⟨rfl,hb1⟩;obtain ⟨hc1,hf1⟩:=bcell hb1;have hz1:w.heap.size<w1.heap.size:=by have:=hb1.size;simp at this;omega))
 go_region_held3 (λw'=>w'.cell? ⟨w1.heap.size,0,none⟩=some (.string (O.nameS k))/\w'.cell? ⟨w1.heap.size,1,none⟩=some (.int .i64 (K.cyc k))/\w'.cell? ⟨w1.heap.size,2,none⟩=some (.int .i64 8)/\w'.cell? ⟨w1.heap.size+1,0,none⟩=some (.int .i64 (k))/\w'.cell? ⟨w1.heap.size+1,1,none⟩=some (.int .i64 (0))/\w'.cell? ⟨w1.heap.size+1,2,none⟩=some (.int .i64 (0))/\w'.cell? ⟨w1.heap.size+1,3,none⟩=some (.int .i64 (0))/\w'.cell? ⟨w1.heap.size+1,4,none⟩=some (.int .i64 (b)))
  (first
    | with_reducible exact held8 hb2
    | with_reducible exact held8s hz1 (by assumption)
    | (go_keep;done))
  ((go_at_call 260;refine (HW.out _).mono ?_;rintro e w2 ⟨rfl,hb2⟩;obtain ⟨hc2,hf2⟩:=newRes hb1 hb2))
 go_wp2
 refine bodyPost_ret (v:=.tuple #[.agg #[.int .i64 k,.int .i64 (0),.int .i64 (0),.int .i64 (0),.int .i64 (b)],.int .i64 2]) (by simp [results,Tryz.results259,go_sem,hc2,lenOf]) rfl ⟨rfl,?_⟩
 exact (((((stp (stA (stA (stp (stA (st0 _) _) hb1) _) _).drew hb2).setCell (Nat.le_refl _) _).setCell (Nat.le_refl _) _).setCell (Nat.le_refl _) _).setCell (Nat.le_refl _) _).setCell (Nat.le_refl _) _
theorem zrq (k:Nat) (hk:k<32) (h30:k≠30) (hm:O.mask k=9) (a b:Int) (ha:0<=a) (ha':a<=65535) (hb:0<=b) (hb':b<=65535) (hak:a/2048=k) (w:World) (hs:shapesAt w) :
 Calls Tryz.prog 259 #[.int .u16 a,.int .u16 b] w λe w'=>e = .returned (.tuple #[.agg #[.int .i64 k,.int .i64 (a/256%8),.int .i64 (0),.int .i64 (0),.int .i64 (b)],.int .i64 2])/\Below w.heap.size w w':=by
 have hwd:=zaO (.string (O.nameS k)) (.int .i64 (K.cyc k)) k hk
 have HS:=hid hs
 have HM:=hid hm
 have HW:=hid hwd
 rw [hm] at HW
 have eD:=(zbJ (a/256) (by omega) (by omega)).1
 clear hs hm hwd
 go_enter Tryz.func259,Tryz.ntmps259
 go_wp2_with (first
  | (go_at_call 209;refine (zaU k hk h30 _ (zah HS.out _)).mono ?_;rw [HM.out];rintro e w1 ⟨rfl,hb1⟩;obtain ⟨hc1,hf1⟩:=bcell hb1;have hz1:w.heap.size<w1.heap.size:=by have:=hb1.size;simp at this;omega))
 clear eD
 go_region_held3 (λw'=>w'.cell? ⟨w1.heap.size,0,none⟩=some (.string (O.nameS k))/\w'.cell? ⟨w1.heap.size,1,none⟩=some (.int .i64 (K.cyc k))/\w'.cell? ⟨w1.heap.size,2,none⟩=some (.int .i64 9)/\w'.cell? ⟨w1.heap.size+1,0,none⟩=some (.int .i64 (k))/\w'.cell? ⟨w1.heap.size+1,1,none⟩=some (.int .i64 (a/256%8))/\w'.cell? ⟨w1.heap.size+1,2,none⟩=some (.int .i64 (0))/\w'.cell? ⟨w1.heap.size+1,3,none⟩=some (.int .i64 (0))/\w'.cell? ⟨w1.heap.size+1,4,none⟩=some (.int .i64 (b)))
  (first
    | with_reducible exact held8 hb2
    | with_reducible exact held8s hz1 (by assumption)
    | (go_keep;done))
  ((go_at_call 260;refine (HW.out _).mono ?_;rintro e w2 ⟨rfl,hb2⟩;obtain ⟨hc2,hf2⟩:=newRes hb1 hb2))
 go_wp2
 refine bodyPost_ret (v:=.tuple #[.agg #[.int .i64 k,.int .i64 (a/256%8),.int .i64 (0),.int .i64 (0),.int .i64 (b)],.int .i64 2]) (by simp [results,Tryz.results259,go_sem,hc2,lenOf]) rfl ⟨rfl,?_⟩
 exact (((((stp (stA (stA (stp (stA (st0 _) _) hb1) _) _).drew hb2).setCell (Nat.le_refl _) _).setCell (Nat.le_refl _) _).setCell (Nat.le_refl _) _).setCell (Nat.le_refl _) _).setCell (Nat.le_refl _) _
theorem zpS (k:Nat) (hk:k<32) (h30:k≠30) (hm:O.mask k=17) (a b:Int) (ha:0<=a) (ha':a<=65535) (hb:0<=b) (hb':b<=65535) (hak:a/2048=k) (w:World) (hs:shapesAt w) :
 Calls Tryz.prog 259 #[.int .u16 a,.int .u16 b] w λe w'=>e = .returned (.tuple #[.agg #[.int .i64 k,.int .i64 (a/256%8),.int .i64 (0),.int .i64 (a%16),.int .i64 (0)],.int .i64 1])/\Below w.heap.size w w':=by
 have hwd:=zaO (.string (O.nameS k)) (.int .i64 (K.cyc k)) k hk
 have HS:=hid hs
 have HM:=hid hm
 have HW:=hid hwd
 rw [hm] at HW
 have eD:=(zbJ (a/256) (by omega) (by omega)).1
 have eN:=(zbJ a ha ha').2
 clear hs hm hwd
 go_enter Tryz.func259,Tryz.ntmps259
 go_wp2_with (first
  | (go_at_call 209;refine (zaU k hk h30 _ (zah HS.out _)).mono ?_;rw [HM.out];rintro e w1 ⟨rfl,hb1⟩;obtain ⟨hc1,hf1⟩:=bcell hb1;have hz1:w.heap.size<w1.heap.size:=by have:=hb1.size;simp at this;omega))
 clear eD eN
 go_region_held3 (λw'=>w'.cell? ⟨w1.heap.size,0,none⟩=some (.string (O.nameS k))/\w'.cell? ⟨w1.heap.size,1,none⟩=some (.int .i64 (K.cyc k))/\w'.cell? ⟨w1.heap.size,2,none⟩=some (.int .i64 17)/\w'.cell? ⟨w1.heap.size+1,0,none⟩=some (.int .i64 (k))/\w'.cell? ⟨w1.heap.size+1,1,none⟩=some (.int .i64 (a/256%8))/\w'.cell? ⟨w1.heap.size+1,2,none⟩=some (.int .i64 (0))/\w'.cell? ⟨w1.heap.size+1,3,none⟩=some (.int .i64 (a%16))/\w'.cell? ⟨w1.heap.size+1,4,none⟩=some (.int .i64 (0)))
  (first
    | with_reducible exact held8 hb2
    | with_reducible exact held8s hz1 (by assumption)
    | (go_keep;done))
  ((go_at_call 260;refine (HW.out _).mono ?_;rintro e w2 ⟨rfl,hb2⟩;obtain ⟨hc2,hf2⟩:=newRes hb1 hb2))
 go_wp2
 refine bodyPost_ret (v:=.tuple #[.agg #[.int .i64 k,.int .i64 (a/256%8),.int .i64 (0),.int .i64 (a%16),.int .i64 (0)],.int .i64 1]) (by simp [results,Tryz.results259,go_sem,hc2,lenOf]) rfl ⟨rfl,?_⟩
 exact (((((stp (stA (stA (stp (stA (st0 _) _) hb1) _) _).drew hb2).setCell (Nat.le_refl _) _).setCell (Nat.le_refl _) _).setCell (Nat.le_refl _) _).setCell (Nat.le_refl _) _).setCell (Nat.le_refl _) _
theorem zrr {w w1:World} {o:Obj} (hb:Below (w.alloc o).heap.size (w.alloc o) w1):w.heap.size<w1.heap.size:=by have:=hb.size;simp at this;omega
theorem trapAt {w:World} (h:shapesAt w):w.cell? ⟨2,93,none⟩=some (.string (O.nameS 31))/\w.cell? ⟨2,94,none⟩=some (.int .i64 (K.cyc 31))/\w.cell? ⟨2,95,none⟩=some (.int .i64 0):=by
 obtain ⟨a,b,c⟩:=h 31 (by omega)
 exact ⟨a,b,c⟩
theorem zkD (a b:Int) (ha:0<=a) (ha':a<=65535) (hb:0<=b) (hb':b<=65535) (hak:a/2048=30) (w:World) (hs:shapesAt w) :
 Calls Tryz.prog 259 #[.int .u16 a,.int .u16 b] w λe w'=>e = .returned (.tuple #[.agg #[.int .i64 31,.int .i64 0,.int .i64 0,.int .i64 0,.int .i64 0],.int .i64 1])/\Below w.heap.size w w':=by
 have HW:Hid (∀ w:World,Calls Tryz.prog 260 #[.agg #[.string (O.nameS 31),.int .i64 (K.cyc 31),.int .i64 0]] w λe w'=>e = .returned (.int .i64 1)/\Below w.heap.size w w'):=λw=>zaO (.string (O.nameS 31)) (.int .i64 (K.cyc 31)) 31 (by omega) w
 have HS:=hid hs
 have hg:2<w.heap.size:=hs.lt
 clear hs
 go_enter Tryz.func259,Tryz.ntmps259
 go_wp2_with (first
  | (go_at_call 209;refine (zft 30 (by decide) _ (zah HS.out _)).mono ?_;rintro e w1 ⟨rfl,hb1⟩;obtain ⟨c0,c1,c2⟩:=trapAt ((zah HS.out _).kept hb1);have hz1:=zrr hb1;have hg1:2<w1.heap.size:=Nat.lt_trans hg hz1;have hg0:0<w1.heap.size:=Nat.lt_of_le_of_lt (Nat.zero_le _) hg1))
 go_region_held3 (λw'=>w'.cell? ⟨w1.heap.size,0,none⟩=some (.string (O.nameS 31))/\w'.cell? ⟨w1.heap.size,1,none⟩=some (.int .i64 (K.cyc 31))/\w'.cell? ⟨w1.heap.size,2,none⟩=some (.int .i64 0)/\w'.cell? ⟨w1.heap.size+1,0,none⟩=some (.int .i64 31)/\w'.cell? ⟨w1.heap.size+1,1,none⟩=some (.int .i64 0)/\w'.cell? ⟨w1.heap.size+1,2,none⟩=some (.int .i64 0)/\w'.cell? ⟨w1.heap.size+1,3,none⟩=some (.int .i64 0)/\w'.cell? ⟨w1.heap.size+1,4,none⟩=some (.int .i64 0))
  (first
    | with_reducible exact held8 hb2
    | with_reducible exact held8s hz1 (by assumption)
    | (go_keep;done))
  ((go_at_call 260;refine (HW.out _).mono ?_;rintro e w2 ⟨rfl,hb2⟩;obtain ⟨hc2,hf2⟩:=newRes hb1 hb2))
 go_wp2
 refine bodyPost_ret (v:=.tuple #[.agg #[.int .i64 31,.int .i64 0,.int .i64 0,.int .i64 0,.int .i64 0],.int .i64 1]) (by simp [results,Tryz.results259,go_sem,hc2]) rfl ⟨rfl,?_⟩
 exact (((((stp (stA (stA (stp (stA (st0 _) _) hb1) _) _).drew hb2).setCell (Nat.le_refl _) _).setCell (Nat.le_refl _) _).setCell (Nat.le_refl _) _).setCell (Nat.le_refl _) _).setCell (Nat.le_refl _) _
def orderV (a b:Int):Value:=.agg #[.int .i64 (O.rOp a),.int .i64 (O.rD a),.int .i64 (O.rS a),.int .i64 (O.rN a),.int .i64 (O.rW a b)]
theorem ziY (k:Nat) (hk:k<32) (a b:Int) (hr:O.rOp a=k) :
 O.rD a=(if O.mask k%2=1 then a/256%8 else 0)/\O.rS a=(if O.mask k/2%2=1 then a/32%8 else 0)/\O.rN a=(if O.mask k/16%2=1 then a%16 else if O.mask k/4%2=1 then M.low a 5 else 0) /\
  O.rW a b=(if O.mask k/8%2=1 then b else 0)/\O.rLen a=lenOf (O.mask k):=by
 have hkk:O.rk a=k:=by unfold O.rk;rw [hr];rfl
 have h:∀ k,k<32->O.hasC k 100=decide (O.mask k%2=1)/\O.hasC k 115=decide (O.mask k/2%2=1)/\O.hasC k 119=decide (O.mask k/8%2=1) /\
  (O.hasC k 110=(decide (O.mask k/16%2=1) || decide (O.mask k/4%2=1)))/\(decide (O.mask k/16%2=1)=decide (k=12 \/ k=13)):=by decide +kernel
 obtain ⟨h1,h2,h3,h4,h5⟩:=h k hk
 unfold O.rD O.rS O.rN O.rW O.rLen lenOf
 rw [hkk,h1,h2,h3,h4]
 refine ⟨by simp only [decide_eq_true_eq],by simp only [decide_eq_true_eq],?_,by simp only [decide_eq_true_eq],by simp only [decide_eq_true_eq]⟩
 unfold O.nOf
 have h5':=decide_eq_decide.1 h5
 by_cases c:O.mask k/16%2=1
 ·simp only [c,decide_true,Bool.true_or,if_true,if_pos (h5'.1 c)]
 ·have c':¬ (k=12 \/ k=13):=λx=>c (h5'.2 x)
  rw [if_neg c',if_neg c,decide_eq_false c,O.low_5]
  simp only [Bool.false_or,decide_eq_true_eq]
theorem zfx (a b:Int) (ha:0<=a/\a<=65535) (hb:0<=b/\b<=65535) (w:World) (hs:shapesAt w) :
 Calls Tryz.prog 259 #[.int .u16 a,.int .u16 b] w λe w'=>e = .returned (.tuple #[orderV a b,.int .i64 (O.rLen a)])/\Below w.heap.size w w':=by
 by_cases h30:a/2048=30
 ·have hr:O.rOp a=((31:Nat):Int):=by unfold O.rOp;rw [if_pos h30];rfl
  obtain ⟨p1,p2,p3,p4,p5⟩:=ziY 31 (by omega) a b hr
  have em:O.mask 31=0:=by decide +kernel
  rw [em] at p1 p2 p3 p4 p5
  unfold orderV
  rw [hr,p1,p2,p3,p4,p5]
  exact zkD a b ha.1 ha.2 hb.1 hb.2 h30 w hs
 ·obtain ⟨k,hk⟩:=Int.eq_ofNat_of_zero_le (show 0<=a/2048 by omega)
  have hr:O.rOp a=(k:Int):=by unfold O.rOp;rw [if_neg h30,hk]
  obtain ⟨p1,p2,p3,p4,p5⟩:=ziY k (by omega) a b hr
  unfold orderV
  rw [hr,p1,p2,p3,p4,p5]
  clear p1 p2 p3 p4 p5
  rcases O.mask_or k (by omega) with h|h|h|h|h|h|h|h|h <;> rw [h]
  ·exact zrj k (by omega) (by omega) h a b ha.1 ha.2 hb.1 hb.2 hk w hs
  ·exact zrk k (by omega) (by omega) h a b ha.1 ha.2 hb.1 hb.2 hk w hs
  ·exact zrl k (by omega) (by omega) h a b ha.1 ha.2 hb.1 hb.2 hk w hs
  ·exact zrm k (by omega) (by omega) h a b ha.1 ha.2 hb.1 hb.2 hk w hs
  ·exact zrn k (by omega) (by omega) h a b ha.1 ha.2 hb.1 hb.2 hk w hs
  ·exact zro k (by omega) (by omega) h a b ha.1 ha.2 hb.1 hb.2 hk w hs
  ·exact zrp k (by omega) (by omega) h a b ha.1 ha.2 hb.1 hb.2 hk w hs
  ·exact zrq k (by omega) (by omega) h a b ha.1 ha.2 hb.1 hb.2 hk w hs
  ·exact zpS k (by omega) (by omega) h a b ha.1 ha.2 hb.1 hb.2 hk w hs
theorem zjv (k:Nat) (hk:k<32) (h30:k≠30) (w:World) (hs:shapesAt w) :
 Calls Tryz.prog 155 #[.int .i64 k] w λe w'=>e = .returned (.tuple #[.string (O.nameS k),.int .i64 0])/\Below w.heap.size w w':=by
 have HS:=hid hs
 clear hs
 go_enter Tryz.func155,Tryz.ntmps155
 go_wp2_with (go_at_call 209;refine (zaU k hk h30 _ HS.out).mono ?_;rintro e w1 ⟨rfl,hb1⟩)
 go_ret2
 exact ⟨rfl,stA hb1 _⟩
theorem zkE (op:Int) (h:O.isOp op=false) (w:World) (hs:shapesAt w) :
 Calls Tryz.prog 155 #[.int .i64 op] w λe w'=>e = .returned (.tuple #[.string ⟨#[]⟩,.int .i64 5])/\Below w.heap.size w w':=by
 have HS:=hid hs
 clear hs
 have H:=hid h
 clear h
 go_enter Tryz.func155,Tryz.ntmps155
 go_wp2_with (go_at_call 209;refine (zft op H.out _ HS.out).mono ?_;rintro e w1 ⟨rfl,hb1⟩)
 go_ret2
 exact ⟨rfl,stA hb1 _⟩
end Go.Proofs.YtbennamieealbaaGreatDoor
namespace Go.Proofs
open Go.Shelf
def Tryz.lays104_ren:Go.Shelf.Ren:=⟨fun|104=>211|211=>241|207=>302|n=>n,fun|9=>9|4=>4|24=>297|3=>3|n=>n,fun|n=>n⟩
theorem Tryz.lays104:Go.Proofs.Lays.n104 Tryz.prog Tryz.lays104_ren:={
 mixed:=by kernel_rfl
 f104:=Tryz.func211.trans (congrArg some (by kernel_rfl))
 f207:=Tryz.func302.trans (congrArg some (by kernel_rfl))
 f211:=Tryz.func241.trans (congrArg some (by kernel_rfl))
 t3:=Tryz.underlying3
 a3:=Tryz.isAgg3
 z3:=Tryz.sizeOf3
 v3:=Tryz.zeroValue3
 t4:=Tryz.underlying4
 a4:=Tryz.isAgg4
 z4:=Tryz.sizeOf4
 v4:=Tryz.zeroValue4
 t9:=Tryz.underlying9
 a9:=Tryz.isAgg9
 z9:=Tryz.sizeOf9
 v9:=Tryz.zeroValue9
 t24:=Tryz.underlying297
 a24:=Tryz.isAgg297
 z24:=Tryz.sizeOf297
 v24:=Tryz.zeroValue297 }
open Go.RowKit in
theorem Tryz.strings_CutSuffix (s p:ByteArray) (w:World) (hs:s.size<=9223372036854775807) :
 Calls Tryz.prog 211 #[.string s,.string p] w λe w'=>e = .returned (.tuple #[.string ⟨(Lib.trimSuffix s.data.toList p.data.toList).toArray⟩,.bool (Lib.hasSuffix s.data.toList p.data.toList)])/\w'=w:=Any.strings_CutSuffix Tryz.lays104 s p w hs
def Tryz.laysM171_ren:Go.Shelf.Ren:=⟨fun|171=>306|243=>330|246=>334|283=>344|284=>345|285=>346|286=>347|129=>350|317=>349|318=>351|319=>352|320=>353|337=>354|338=>355|n=>n,fun|3=>3|9=>9|2=>2|4=>4|171=>422|0=>0|53=>365|37=>26|5=>5|173=>425|212=>428|51=>328|20=>20|213=>429|46=>292|232=>432|233=>433|n=>n,fun|17=>8|18=>9|19=>10|n=>n⟩
theorem Tryz.laysM171:Go.Proofs.LaysM.n171 Tryz.prog Tryz.laysM171_ren:={
 mixed:=by kernel_rfl
 f129:=Tryz.func350.trans (congrArg some (by kernel_rfl))
 f171:=Tryz.func306.trans (congrArg some (by kernel_rfl))
 f243:=Tryz.func330.trans (congrArg some (by kernel_rfl))
 f246:=Tryz.func334.trans (congrArg some (by kernel_rfl))
 f283:=Tryz.func344.trans (congrArg some (by kernel_rfl))
 f284:=Tryz.func345.trans (congrArg some (by kernel_rfl))
 f285:=Tryz.func346.trans (congrArg some (by kernel_rfl))
 f286:=Tryz.func347.trans (congrArg some (by kernel_rfl))
 f317:=Tryz.func349.trans (congrArg some (by kernel_rfl))
 f318:=Tryz.func351.trans (congrArg some (by kernel_rfl))
 f319:=Tryz.func352.trans (congrArg some (by kernel_rfl))
 f320:=Tryz.func353.trans (congrArg some (by kernel_rfl))
 f337:=Tryz.func354.trans (congrArg some (by kernel_rfl))
 f338:=Tryz.func355.trans (congrArg some (by kernel_rfl))
 t0:=Tryz.underlying0
 a0:=Tryz.isAgg0
 z0:=Tryz.sizeOf0
 v0:=Tryz.zeroValue0
 t2:=Tryz.underlying2
 a2:=Tryz.isAgg2
 z2:=Tryz.sizeOf2
 v2:=Tryz.zeroValue2
 t3:=Tryz.underlying3
 a3:=Tryz.isAgg3
 z3:=Tryz.sizeOf3
 v3:=Tryz.zeroValue3
 t4:=Tryz.underlying4
 a4:=Tryz.isAgg4
 z4:=Tryz.sizeOf4
 v4:=Tryz.zeroValue4
 t5:=Tryz.underlying5
 a5:=Tryz.isAgg5
 z5:=Tryz.sizeOf5
 v5:=Tryz.zeroValue5
 t9:=Tryz.underlying9
 a9:=Tryz.isAgg9
 z9:=Tryz.sizeOf9
 v9:=Tryz.zeroValue9
 t20:=Tryz.underlying20
 a20:=Tryz.isAgg20
 z20:=Tryz.sizeOf20
 v20:=Tryz.zeroValue20
 t37:=Tryz.underlying26
 a37:=Tryz.isAgg26
 z37:=Tryz.sizeOf26
 v37:=Tryz.zeroValue26
 t46:=Tryz.underlying292
 a46:=Tryz.isAgg292
 z46:=Tryz.sizeOf292
 v46:=Tryz.zeroValue292
 t51:=Tryz.underlying328
 a51:=Tryz.isAgg328
 z51:=Tryz.sizeOf328
 v51:=Tryz.zeroValue328
 t53:=Tryz.underlying365
 a53:=Tryz.isAgg365
 z53:=Tryz.sizeOf365
 v53:=Tryz.zeroValue365
 t171:=Tryz.underlying422
 a171:=Tryz.isAgg422
 z171:=Tryz.sizeOf422
 v171:=Tryz.zeroValue422
 t173:=Tryz.underlying425
 a173:=Tryz.isAgg425
 z173:=Tryz.sizeOf425
 v173:=Tryz.zeroValue425
 t212:=Tryz.underlying428
 a212:=Tryz.isAgg428
 z212:=Tryz.sizeOf428
 v212:=Tryz.zeroValue428
 t213:=Tryz.underlying429
 a213:=Tryz.isAgg429
 z213:=Tryz.sizeOf429
 t232:=Tryz.underlying432
 a232:=Tryz.isAgg432
 z232:=Tryz.sizeOf432
 v232:=Tryz.zeroValue432
 t233:=Tryz.underlying433
 a233:=Tryz.isAgg433
 z233:=Tryz.sizeOf433
 v233:=Tryz.zeroValue433
 g17:=by kernel_rfl
 g18:=by kernel_rfl
 g19:=by kernel_rfl
 i0:=by kernel_rfl
 i2:=by kernel_rfl
 i3:=by kernel_rfl
 i4:=by kernel_rfl
 i5:=by kernel_rfl
 i9:=by kernel_rfl
 i20:=by kernel_rfl
 i37:=by kernel_rfl
 i46:=by kernel_rfl
 i51:=by kernel_rfl
 i53:=by kernel_rfl
 i171:=by kernel_rfl
 i173:=by kernel_rfl
 i212:=by kernel_rfl
 i232:=by kernel_rfl
 i233:=by kernel_rfl
 m17:=by kernel_rfl
 m18:=by kernel_rfl
 m19:=by kernel_rfl }
open Go.RowKit Go.Sort Go.Lib in
theorem Tryz.strconv_Itoa (n:Int) (h0:-9223372036854775808<=n) (h1:n<=9223372036854775807) (w:World) (htab:Lib.TabIs Tryz.prog w "internal/strconv.uint64pow10" .u64 Lib.pow10Tab) :
 Calls Tryz.prog 306 #[.int .i64 n] w λe w'=>e = .returned (.string ⟨(Lib.itoa n).toArray⟩) /\ ∃ k os,w'=grow (w.drewN k) os:=Any.strconv_Itoa Tryz.laysM171 n h0 h1 w htab
def Tryz.laysC172_ren:Go.Shelf.Ren:=⟨fun|172=>305|244=>329|245=>237|247=>236|279=>298|280=>299|281=>300|282=>301|287=>297|316=>326|171=>306|205=>327|321=>324|322=>325|243=>330|246=>334|283=>344|284=>345|285=>346|286=>347|129=>350|317=>349|318=>351|319=>352|320=>353|337=>354|338=>355|n=>n,fun|9=>9|3=>3|75=>284|76=>374|4=>4|5=>5|167=>364|37=>26|0=>0|85=>285|2=>2|168=>368|53=>365|175=>366|46=>292|210=>398|127=>207|145=>413|143=>411|21=>21|171=>422|173=>425|212=>428|51=>328|20=>20|213=>429|232=>432|233=>433|80=>434|n=>n,fun|15=>4|16=>5|17=>8|18=>9|19=>10|n=>n⟩
theorem Tryz.laysC172:Go.Proofs.LaysC.n172 Tryz.prog Tryz.laysC172_ren:={
 mixed:=by kernel_rfl
 f129:=Tryz.func350.trans (congrArg some (by kernel_rfl))
 f171:=Tryz.func306.trans (congrArg some (by kernel_rfl))
 f172:=Tryz.func305.trans (congrArg some (by kernel_rfl))
 f205:=Tryz.func327.trans (congrArg some (by kernel_rfl))
 f243:=Tryz.func330.trans (congrArg some (by kernel_rfl))
 f244:=Tryz.func329.trans (congrArg some (by kernel_rfl))
 f245:=Tryz.func237.trans (congrArg some (by kernel_rfl))
 f246:=Tryz.func334.trans (congrArg some (by kernel_rfl))
 f247:=Tryz.func236.trans (congrArg some (by kernel_rfl))
 f279:=Tryz.func298.trans (congrArg some (by kernel_rfl))
 f280:=Tryz.func299.trans (congrArg some (by kernel_rfl))
 f281:=Tryz.func300.trans (congrArg some (by kernel_rfl))
 f282:=Tryz.func301.trans (congrArg some (by kernel_rfl))
 f283:=Tryz.func344.trans (congrArg some (by kernel_rfl))
 f284:=Tryz.func345.trans (congrArg some (by kernel_rfl))
 f285:=Tryz.func346.trans (congrArg some (by kernel_rfl))
 f286:=Tryz.func347.trans (congrArg some (by kernel_rfl))
 f287:=Tryz.func297.trans (congrArg some (by kernel_rfl))
 f316:=Tryz.func326.trans (congrArg some (by kernel_rfl))
 f317:=Tryz.func349.trans (congrArg some (by kernel_rfl))
 f318:=Tryz.func351.trans (congrArg some (by kernel_rfl))
 f319:=Tryz.func352.trans (congrArg some (by kernel_rfl))
 f320:=Tryz.func353.trans (congrArg some (by kernel_rfl))
 f321:=Tryz.func324.trans (congrArg some (by kernel_rfl))
 f322:=Tryz.func325.trans (congrArg some (by kernel_rfl))
 f337:=Tryz.func354.trans (congrArg some (by kernel_rfl))
 f338:=Tryz.func355.trans (congrArg some (by kernel_rfl))
 t0:=Tryz.underlying0
 a0:=Tryz.isAgg0
 z0:=Tryz.sizeOf0
 v0:=Tryz.zeroValue0
 t2:=Tryz.underlying2
 a2:=Tryz.isAgg2
 z2:=Tryz.sizeOf2
 v2:=Tryz.zeroValue2
 t3:=Tryz.underlying3
 a3:=Tryz.isAgg3
 z3:=Tryz.sizeOf3
 v3:=Tryz.zeroValue3
 t4:=Tryz.underlying4
 a4:=Tryz.isAgg4
 z4:=Tryz.sizeOf4
 v4:=Tryz.zeroValue4
 t5:=Tryz.underlying5
 a5:=Tryz.isAgg5
 z5:=Tryz.sizeOf5
 v5:=Tryz.zeroValue5
 t9:=Tryz.underlying9
 a9:=Tryz.isAgg9
 z9:=Tryz.sizeOf9
 v9:=Tryz.zeroValue9
 t20:=Tryz.underlying20
 a20:=Tryz.isAgg20
 z20:=Tryz.sizeOf20
 v20:=Tryz.zeroValue20
 t21:=Tryz.underlying21
 a21:=Tryz.isAgg21
 z21:=Tryz.sizeOf21
 v21:=Tryz.zeroValue21
 t37:=Tryz.underlying26
 a37:=Tryz.isAgg26
 z37:=Tryz.sizeOf26
 v37:=Tryz.zeroValue26
 t46:=Tryz.underlying292
 a46:=Tryz.isAgg292
 z46:=Tryz.sizeOf292
 v46:=Tryz.zeroValue292
 t51:=Tryz.underlying328
 a51:=Tryz.isAgg328
 z51:=Tryz.sizeOf328
 v51:=Tryz.zeroValue328
 t53:=Tryz.underlying365
 a53:=Tryz.isAgg365
 z53:=Tryz.sizeOf365
 v53:=Tryz.zeroValue365
 t75:=Tryz.underlying284
 a75:=Tryz.isAgg284
 z75:=Tryz.sizeOf284
 v75:=Tryz.zeroValue284
 t76:=Tryz.underlying374
 a76:=Tryz.isAgg374
 z76:=Tryz.sizeOf374
 v76:=Tryz.zeroValue374
 t85:=Tryz.underlying285
 a85:=Tryz.isAgg285
 z85:=Tryz.sizeOf285
 v85:=Tryz.zeroValue285
 t127:=Tryz.underlying207
 a127:=Tryz.isAgg207
 z127:=Tryz.sizeOf207
 v127:=Tryz.zeroValue207
 t143:=Tryz.underlying411
 a143:=Tryz.isAgg411
 z143:=Tryz.sizeOf411
 v143:=Tryz.zeroValue411
 t145:=Tryz.underlying413
 a145:=Tryz.isAgg413
 z145:=Tryz.sizeOf413
 v145:=Tryz.zeroValue413
 t167:=Tryz.underlying364
 a167:=Tryz.isAgg364
 z167:=Tryz.sizeOf364
 v167:=Tryz.zeroValue364
 t168:=Tryz.underlying368
 a168:=Tryz.isAgg368
 z168:=Tryz.sizeOf368
 v168:=Tryz.zeroValue368
 t171:=Tryz.underlying422
 a171:=Tryz.isAgg422
 z171:=Tryz.sizeOf422
 v171:=Tryz.zeroValue422
 t173:=Tryz.underlying425
 a173:=Tryz.isAgg425
 z173:=Tryz.sizeOf425
 v173:=Tryz.zeroValue425
 t175:=Tryz.underlying366
 a175:=Tryz.isAgg366
 z175:=Tryz.sizeOf366
 v175:=Tryz.zeroValue366
 t210:=Tryz.underlying398
 a210:=Tryz.isAgg398
 z210:=Tryz.sizeOf398
 v210:=Tryz.zeroValue398
 t212:=Tryz.underlying428
 a212:=Tryz.isAgg428
 z212:=Tryz.sizeOf428
 v212:=Tryz.zeroValue428
 t213:=Tryz.underlying429
 a213:=Tryz.isAgg429
 z213:=Tryz.sizeOf429
 t232:=Tryz.underlying432
 a232:=Tryz.isAgg432
 z232:=Tryz.sizeOf432
 v232:=Tryz.zeroValue432
 t233:=Tryz.underlying433
 a233:=Tryz.isAgg433
 z233:=Tryz.sizeOf433
 v233:=Tryz.zeroValue433
 g15:=by kernel_rfl
 g16:=by kernel_rfl
 g17:=by kernel_rfl
 g18:=by kernel_rfl
 g19:=by kernel_rfl
 t80:=Tryz.underlying434
 a80:=Tryz.isAgg434
 z80:=Tryz.sizeOf434
 v80:=Tryz.zeroValue434
 i0:=by kernel_rfl
 i2:=by kernel_rfl
 i3:=by kernel_rfl
 i4:=by kernel_rfl
 i5:=by kernel_rfl
 i9:=by kernel_rfl
 i20:=by kernel_rfl
 i21:=by kernel_rfl
 i37:=by kernel_rfl
 i46:=by kernel_rfl
 i51:=by kernel_rfl
 i53:=by kernel_rfl
 i75:=by kernel_rfl
 i76:=by kernel_rfl
 i80:=by kernel_rfl
 i85:=by kernel_rfl
 i127:=by kernel_rfl
 i143:=by kernel_rfl
 i145:=by kernel_rfl
 i167:=by kernel_rfl
 i168:=by kernel_rfl
 i171:=by kernel_rfl
 i173:=by kernel_rfl
 i175:=by kernel_rfl
 i210:=by kernel_rfl
 i212:=by kernel_rfl
 i232:=by kernel_rfl
 i233:=by kernel_rfl
 m15:=by kernel_rfl
 m16:=by kernel_rfl
 m17:=by kernel_rfl
 m18:=by kernel_rfl
 m19:=by kernel_rfl
 c0:=by kernel_rfl
 c2:=by kernel_rfl
 c3:=by kernel_rfl
 c4:=by kernel_rfl
 c5:=by kernel_rfl
 c9:=by kernel_rfl
 c20:=by kernel_rfl
 c21:=by kernel_rfl
 c37:=by kernel_rfl
 c46:=by kernel_rfl
 c51:=by kernel_rfl
 c53:=by kernel_rfl
 c75:=by kernel_rfl
 c76:=by kernel_rfl
 c80:=by kernel_rfl
 c85:=by kernel_rfl
 c127:=by kernel_rfl
 c143:=by kernel_rfl
 c145:=by kernel_rfl
 c167:=by kernel_rfl
 c168:=by kernel_rfl
 c171:=by kernel_rfl
 c173:=by kernel_rfl
 c175:=by kernel_rfl
 c210:=by kernel_rfl
 c212:=by kernel_rfl
 c213:=by kernel_rfl
 c232:=by kernel_rfl
 c233:=by kernel_rfl }
open Go.RowKit in
theorem Tryz.strconv_Atoi_ok (s:ByteArray) (hmax:s.size<=9223372036854775806) (v:Int) (h:Lib.atoiAll s.data.toList = .ok v) (w:World) :
 Calls Tryz.prog 305 #[.string s] w λe w'=>e = .returned (.tuple #[.int .i64 v,.nilIface])/\(w'=w \/ ∃ t,w'=Lib.bytesWorld w 5 t):=Any.strconv_Atoi_ok Tryz.laysC172 s hmax v h w
def Tryz.lays145_ren:Go.Shelf.Ren:=⟨fun|145=>156|220=>210|219=>154|217=>205|225=>206|224=>207|267=>208|266=>239|314=>240|n=>n,fun|9=>9|4=>4|59=>250|3=>3|5=>5|46=>292|146=>329|51=>328|n=>n,fun|1=>0|n=>n⟩
theorem Tryz.lays145:Go.Proofs.Lays.n145 Tryz.prog Tryz.lays145_ren:={
 mixed:=by kernel_rfl
 f145:=Tryz.func156.trans (congrArg some (by kernel_rfl))
 f217:=Tryz.func205.trans (congrArg some (by kernel_rfl))
 f219:=Tryz.func154.trans (congrArg some (by kernel_rfl))
 f220:=Tryz.func210.trans (congrArg some (by kernel_rfl))
 f224:=Tryz.func207.trans (congrArg some (by kernel_rfl))
 f225:=Tryz.func206.trans (congrArg some (by kernel_rfl))
 f266:=Tryz.func239.trans (congrArg some (by kernel_rfl))
 f267:=Tryz.func208.trans (congrArg some (by kernel_rfl))
 f314:=Tryz.func240.trans (congrArg some (by kernel_rfl))
 t3:=Tryz.underlying3
 a3:=Tryz.isAgg3
 z3:=Tryz.sizeOf3
 v3:=Tryz.zeroValue3
 t4:=Tryz.underlying4
 a4:=Tryz.isAgg4
 z4:=Tryz.sizeOf4
 v4:=Tryz.zeroValue4
 t5:=Tryz.underlying5
 a5:=Tryz.isAgg5
 z5:=Tryz.sizeOf5
 v5:=Tryz.zeroValue5
 t9:=Tryz.underlying9
 a9:=Tryz.isAgg9
 z9:=Tryz.sizeOf9
 v9:=Tryz.zeroValue9
 t46:=Tryz.underlying292
 a46:=Tryz.isAgg292
 z46:=Tryz.sizeOf292
 v46:=Tryz.zeroValue292
 t51:=Tryz.underlying328
 a51:=Tryz.isAgg328
 z51:=Tryz.sizeOf328
 v51:=Tryz.zeroValue328
 t59:=Tryz.underlying250
 a59:=Tryz.isAgg250
 z59:=Tryz.sizeOf250
 v59:=Tryz.zeroValue250
 t146:=Tryz.underlying329
 a146:=Tryz.isAgg329
 z146:=Tryz.sizeOf329
 v146:=Tryz.zeroValue329
 g1:=by kernel_rfl }
open Go.RowKit Go.Lib in
theorem Tryz.strings_Cut (s sep:ByteArray) (m:Int) (w:World) (hs:s.size<4294967281) (hm:w.cell? ⟨0,0,none⟩=some (.int .i64 m)) :
 Calls Tryz.prog 156 #[.string s,.string sep] w λe w'=>e = .returned (.tuple #[.string ⟨(Lib.cut s.data.toList sep.data.toList).1.toArray⟩,.string ⟨(Lib.cut s.data.toList sep.data.toList).2.1.toArray⟩,.bool (Lib.cut s.data.toList sep.data.toList).2.2]) /\ ∃ n,w'=w.drewN n:=Any.strings_Cut Tryz.lays145 s sep m w hs hm
def Tryz.lays138_ren:Go.Shelf.Ren:=⟨fun|138=>49|195=>79|218=>80|143=>81|219=>154|217=>205|225=>206|224=>207|267=>208|266=>239|314=>240|n=>n,fun|9=>9|3=>3|4=>4|5=>5|0=>0|46=>292|146=>329|51=>328|n=>n,fun|1=>0|n=>n⟩
theorem Tryz.lays138:Go.Proofs.Lays.n138 Tryz.prog Tryz.lays138_ren:={
 mixed:=by kernel_rfl
 f138:=Tryz.func49.trans (congrArg some (by kernel_rfl))
 f143:=Tryz.func81.trans (congrArg some (by kernel_rfl))
 f195:=Tryz.func79.trans (congrArg some (by kernel_rfl))
 f217:=Tryz.func205.trans (congrArg some (by kernel_rfl))
 f218:=Tryz.func80.trans (congrArg some (by kernel_rfl))
 f219:=Tryz.func154.trans (congrArg some (by kernel_rfl))
 f224:=Tryz.func207.trans (congrArg some (by kernel_rfl))
 f225:=Tryz.func206.trans (congrArg some (by kernel_rfl))
 f266:=Tryz.func239.trans (congrArg some (by kernel_rfl))
 f267:=Tryz.func208.trans (congrArg some (by kernel_rfl))
 f314:=Tryz.func240.trans (congrArg some (by kernel_rfl))
 t0:=Tryz.underlying0
 a0:=Tryz.isAgg0
 z0:=Tryz.sizeOf0
 v0:=Tryz.zeroValue0
 t3:=Tryz.underlying3
 a3:=Tryz.isAgg3
 z3:=Tryz.sizeOf3
 v3:=Tryz.zeroValue3
 t4:=Tryz.underlying4
 a4:=Tryz.isAgg4
 z4:=Tryz.sizeOf4
 v4:=Tryz.zeroValue4
 t5:=Tryz.underlying5
 a5:=Tryz.isAgg5
 z5:=Tryz.sizeOf5
 v5:=Tryz.zeroValue5
 t9:=Tryz.underlying9
 a9:=Tryz.isAgg9
 z9:=Tryz.sizeOf9
 v9:=Tryz.zeroValue9
 t46:=Tryz.underlying292
 a46:=Tryz.isAgg292
 z46:=Tryz.sizeOf292
 v46:=Tryz.zeroValue292
 t51:=Tryz.underlying328
 a51:=Tryz.isAgg328
 z51:=Tryz.sizeOf328
 v51:=Tryz.zeroValue328
 t146:=Tryz.underlying329
 a146:=Tryz.isAgg329
 z146:=Tryz.sizeOf329
 v146:=Tryz.zeroValue329
 g1:=by kernel_rfl }
open Go.RowKit Go.Lib in
theorem Tryz.strings_Count_one (s:ByteArray) (c:UInt8) (w:World) :
 Calls Tryz.prog 49 #[.string s,.string ⟨#[c]⟩] w λe w'=>e = .returned (.int .i64 (Lib.countByte s.data.toList c))/\w'=w:=Any.strings_Count_one Tryz.lays138 s c w
def Tryz.lays146_ren:Go.Shelf.Ren:=⟨fun|146=>197|221=>235|268=>296|138=>49|143=>81|195=>79|197=>323|218=>80|219=>154|260=>332|217=>205|225=>206|224=>207|267=>208|266=>239|314=>240|n=>n,fun|9=>9|31=>280|3=>3|4=>4|0=>0|105=>393|21=>21|5=>5|46=>292|119=>322|139=>421|138=>420|146=>329|51=>328|n=>n,fun|1=>0|3=>6|4=>7|n=>n⟩
theorem Tryz.lays146:Go.Proofs.Lays.n146 Tryz.prog Tryz.lays146_ren:={
 mixed:=by kernel_rfl
 f138:=Tryz.func49.trans (congrArg some (by kernel_rfl))
 f143:=Tryz.func81.trans (congrArg some (by kernel_rfl))
 f146:=Tryz.func197.trans (congrArg some (by kernel_rfl))
 f195:=Tryz.func79.trans (congrArg some (by kernel_rfl))
 f197:=Tryz.func323.trans (congrArg some (by kernel_rfl))
 f217:=Tryz.func205.trans (congrArg some (by kernel_rfl))
 f218:=Tryz.func80.trans (congrArg some (by kernel_rfl))
 f219:=Tryz.func154.trans (congrArg some (by kernel_rfl))
 f221:=Tryz.func235.trans (congrArg some (by kernel_rfl))
 f224:=Tryz.func207.trans (congrArg some (by kernel_rfl))
 f225:=Tryz.func206.trans (congrArg some (by kernel_rfl))
 f260:=Tryz.func332.trans (congrArg some (by kernel_rfl))
 f266:=Tryz.func239.trans (congrArg some (by kernel_rfl))
 f267:=Tryz.func208.trans (congrArg some (by kernel_rfl))
 f268:=Tryz.func296.trans (congrArg some (by kernel_rfl))
 f314:=Tryz.func240.trans (congrArg some (by kernel_rfl))
 t0:=Tryz.underlying0
 a0:=Tryz.isAgg0
 z0:=Tryz.sizeOf0
 v0:=Tryz.zeroValue0
 t3:=Tryz.underlying3
 a3:=Tryz.isAgg3
 z3:=Tryz.sizeOf3
 v3:=Tryz.zeroValue3
 t4:=Tryz.underlying4
 a4:=Tryz.isAgg4
 z4:=Tryz.sizeOf4
 v4:=Tryz.zeroValue4
 t5:=Tryz.underlying5
 a5:=Tryz.isAgg5
 z5:=Tryz.sizeOf5
 v5:=Tryz.zeroValue5
 t9:=Tryz.underlying9
 a9:=Tryz.isAgg9
 z9:=Tryz.sizeOf9
 v9:=Tryz.zeroValue9
 t21:=Tryz.underlying21
 a21:=Tryz.isAgg21
 z21:=Tryz.sizeOf21
 v21:=Tryz.zeroValue21
 t31:=Tryz.underlying280
 a31:=Tryz.isAgg280
 z31:=Tryz.sizeOf280
 v31:=Tryz.zeroValue280
 t46:=Tryz.underlying292
 a46:=Tryz.isAgg292
 z46:=Tryz.sizeOf292
 v46:=Tryz.zeroValue292
 t51:=Tryz.underlying328
 a51:=Tryz.isAgg328
 z51:=Tryz.sizeOf328
 v51:=Tryz.zeroValue328
 t105:=Tryz.underlying393
 a105:=Tryz.isAgg393
 z105:=Tryz.sizeOf393
 v105:=Tryz.zeroValue393
 t119:=Tryz.underlying322
 a119:=Tryz.isAgg322
 z119:=Tryz.sizeOf322
 t138:=Tryz.underlying420
 a138:=Tryz.isAgg420
 z138:=Tryz.sizeOf420
 v138:=Tryz.zeroValue420
 t139:=Tryz.underlying421
 a139:=Tryz.isAgg421
 z139:=Tryz.sizeOf421
 v139:=Tryz.zeroValue421
 t146:=Tryz.underlying329
 a146:=Tryz.isAgg329
 z146:=Tryz.sizeOf329
 v146:=Tryz.zeroValue329
 g1:=by kernel_rfl
 g3:=by kernel_rfl
 g4:=by kernel_rfl }
open Go.RowKit Go.Lib in
theorem Tryz.strings_Split (s sep:ByteArray) (m:Int) (w:World) (hs:s.size<4294967281) (hm:w.cell? ⟨0,0,none⟩=some (.int .i64 m)) (h1:1<=sep.size) :
 Calls Tryz.prog 197 #[.string s,.string sep] w λe w' =>
  e = .returned (.slice (some ⟨w.heap.size,0,none⟩) (Lib.countB s sep+1) (Lib.countB s sep+1))/\w'=w.alloc (.cells ((Lib.splitB sep 0 (Lib.countB s sep) s).map Value.string).toArray 9):=Any.strings_Split Tryz.lays146 (by kernel_rfl) s sep m w hs hm h1
end Go.Proofs
namespace Go.Proofs.YtbennamieealbaaGreatDoor
open Go.ChangeShapes Go.WideShapes Go.ChangeAt Go.RowKit
structure AF (w : World) : Prop where
 pow:Lib.TabIs Tryz.prog w "internal/strconv.uint64pow10" .u64 Lib.pow10Tab
 len:∃ m,w.cell? ⟨0,0,none⟩=some (.int .i64 m)
 shapes:shapesAt w
theorem g_pow:Tryz.prog.globalNamed "internal/strconv.uint64pow10" = some 8:=by kernel_rfl
theorem AF.kept {w w':World} (h:AF w) (hb:Below w.heap.size w w'):AF w':=by
 obtain ⟨t,⟨m,hm⟩,s⟩:=h
 exact ⟨Joins.tab_stays g_pow t hb (Nat.le_refl _),⟨m,(hb.cell (World.block_lt_of_cell? w _ hm)).trans hm⟩,s.kept hb⟩
theorem zdx {w:World} (h:AF w) (o:Obj):AF (w.alloc o):=h.kept (stA (st0 _) _)
def Asmk (l:List UInt8):ByteArray:=⟨l.toArray⟩
theorem mk_bs (s:ByteArray):Asmk (bs s)=s:=by obtain ⟨⟨l⟩⟩:=s;rfl
theorem bs_mk (l:List UInt8):bs (Asmk l)=l:=rfl
theorem zcs (l:List UInt8):(Asmk l).size=l.length:=rfl
theorem zh3 (w:World) (k:Nat) (os:Array Obj):Below w.heap.size w (Sort.grow (w.drewN k) os):=by
 have h:∀ k,Below w.heap.size w (w.drewN k):=λk=>by
  induction k with
  | zero=>exact st0 w
  | succ k ih=>exact ih.drew
 refine (h k).trans ⟨rfl,rfl,rfl,by simp [Sort.grow],λi hi=>?_⟩
 have:(w.drewN k).heap.size=w.heap.size:=by simp
 show ((w.drewN k).heap++os)[i]? = _
 rw [Array.getElem?_append_left (by omega)]
theorem znx (n:Int) (h0:-9223372036854775808<=n) (h1:n<=9223372036854775807) (w:World) (h:AF w) :
 Calls Tryz.prog 306 #[.int .i64 n] w λe w'=>e = .returned (.string (Asmk (Lib.itoa n)))/\Below w.heap.size w w':=by
 refine (Tryz.strconv_Itoa n h0 h1 w h.pow).mono λe w' ⟨he,k,os,hw⟩=>⟨he,?_⟩
 subst hw
 exact zh3 w k os
def offP (p:Nat):Nat:=if p=0 then 1 else if p=1 then 2 else if p=2 then 4 else 3
def ordCells (k:Nat) (o:S.Ord):Array Value:=#[.int .i64 k,.int .i64 o.d,.int .i64 o.s,.int .i64 o.n,.int .i64 o.w]
theorem zrs {k j:Nat} {p:Nat} (h:(S.parts k)[j]? = some p):(pcs k 4)[j]? = some (.int .i64 p):=by
 unfold pcs
 rw [List.getElem?_map]
 have:((List.range 4).filter (λp=>O.hasC k (S.sgn p)))[j]? = some p:=h
 rw [this];rfl
theorem zh4 (k:Nat):(pcs k 4).length=(S.parts k).length:=by unfold pcs S.parts;rw [List.length_map]
theorem zny {k j p:Nat} (h:(S.parts k)[j]? = some p):p<4:=by
 have:=List.mem_of_getElem? h
 unfold S.parts at this
 have:=(List.mem_filter.1 this).1
 simpa using this
theorem znz (k:Nat):(S.parts k).length<=4:=by
 unfold S.parts
 exact Nat.le_trans (List.length_filter_le _ _) (by simp)
theorem zdE {w:World} {B:Nat} {t:TypeId} {v:Value} {n:Nat} {xs:List Value} (h:w.ownsRow B t 1 v n xs) (hn:0<n):∃ g cap,v = .slice (some ⟨g,0,none⟩) n cap/\B<=g/\g<w.heap.size/\n<=cap /\ ∀ j,j<n->w.cell? ⟨g,j,none⟩=xs[j]?:=by
 obtain ⟨hl,h⟩:=h
 rcases h with ⟨_,h0⟩|⟨g,cap,cur,rfl,hB,hb,hc,_,hs,ht⟩
 ·omega
 ·refine ⟨g,cap,rfl,hB,(Array.getElem?_eq_some_iff.1 hb).1,hc,λj hj=>?_⟩
  simp only [World.cell?,hb]
  have hj':j<cur.size:=by rw [hs];omega
  rw [<- ht,List.getElem?_take_of_lt (by omega)]
  simp [hj']
end Go.Proofs.YtbennamieealbaaGreatDoor
namespace Go.Proofs.YtbennamieealbaaGreatDoor
open Go.ChangeShapes Go.WideShapes Go.ChangeAt Go.RowKit
theorem zkF {w:World} {B:Nat} {t:TypeId} {v:Value} {n:Nat} {xs:List Value} (h:w.ownsRow B t 1 v n xs) (hn:n=0):∃ a cap,v = .slice a 0 cap:=by
 subst hn
 rcases h.2 with ⟨h,_⟩|⟨g,cap,cur,h,_⟩
 ·exact ⟨_,_,h⟩
 ·exact ⟨_,_,h⟩
theorem zkG (k:Nat) (hk:k<32) (h30:k≠30) (hp:S.parts k=[]) (w:World) (hs:shapesAt w) :
 Calls Tryz.prog 245 #[.int .i64 k] w λe w'=>∃ a cap,e = .returned (.slice a 0 cap)/\Below w.heap.size w w':=by
 refine (zdD k hk h30 w hs).mono λe w' ⟨v,he,hown,hb⟩=>?_
 obtain ⟨a,cap,rfl⟩:=zkF hown (by rw [zh4,hp];rfl)
 exact ⟨a,cap,he,hb⟩
def partsAt (w:World) (g k:Nat):Prop:=∀ j p:Nat,(S.parts k)[j]? = some p->w.cell? ⟨g,j,none⟩=some (.int .i64 p)
theorem zkH (k:Nat) (hk:k<32) (h30:k≠30) (hp:0<(S.parts k).length) (w:World) (hs:shapesAt w) :
 Calls Tryz.prog 245 #[.int .i64 k] w λe w'=>∃ g cap,e = .returned (.slice (some ⟨g,0,none⟩) (S.parts k).length cap)/\partsAt w' g k/\w.heap.size<=g/\g<w'.heap.size/\(S.parts k).length<=cap/\Below w.heap.size w w':=by
 refine (zdD k hk h30 w hs).mono λe w' ⟨v,he,hown,hb⟩=>?_
 obtain ⟨g,cap,rfl,h1,h2,h3,h4⟩:=zdE hown (by rw [zh4];exact hp)
 rw [zh4] at he h3 h4
 refine ⟨g,cap,he,λj p hj=>?_,h1,h2,h3,hb⟩
 rw [h4 j (List.getElem?_eq_some_iff.1 hj).1,zrs hj]
theorem partsAt.kept {w w':World} {g k B:Nat} (h:partsAt w g k) (hb:Below B w w') (hB:g<B):partsAt w' g k:=λj p hj=>(hb.cell hB).trans (h j p hj)
theorem zpT (k:Nat) (h30:k≠30):O.nameS k=Asmk (K.row k).1:=by unfold O.nameS;rw [if_neg h30];rfl
def AsbytesAt (w:World) (g o:Nat) (l:List UInt8):Prop:=∀ (j:Nat) (c:UInt8),l[j]? = some c->w.cell? ⟨g,o+j,none⟩=some (.int .u8 c.toNat)
theorem AsbytesAt.kept {w w':World} {g o B:Nat} {l:List UInt8} (h:AsbytesAt w g o l) (hb:Below B w w') (hB:g<B):AsbytesAt w' g o l:=λj c hj=>(hb.cell hB).trans (h j c hj)
theorem zdy {w a:World} (h:Below w.heap.size w a) (k:Nat):Below w.heap.size w (a.drewN k):=by
 induction k with
 | zero=>exact h
 | succ k ih=>exact ih.drew
end Go.Proofs.YtbennamieealbaaGreatDoor
namespace Go.Proofs.YtbennamieealbaaGreatDoor
open Go.ChangeShapes Go.WideShapes Go.ChangeAt Go.RowKit
theorem byteCells_append (a b:List UInt8):Lib.byteCells a++Lib.byteCells b=Lib.byteCells (a++b):=by
 first|rfl|simp [Lib.byteCells]
theorem zcD (a:List UInt8):(Lib.byteCells a).length=a.length:=by
 first|rfl|simp [Lib.byteCells]
def AssliceAt (w:World) (v:Value) (l:List UInt8):Prop:=(∃ a cap,v = .slice a 0 cap/\l=[]) \/ ∃ g o cap,v = .slice (some ⟨g,o,none⟩) l.length cap/\l.length<=cap/\g<w.heap.size/\AsbytesAt w g o l
theorem AssliceAt.kept {w w':World} {v:Value} {l:List UInt8} (h:AssliceAt w v l) (hb:Below w.heap.size w w'):AssliceAt w' v l:=by
 rcases h with h|⟨g,o,cap,h1,h2,h3,h4⟩
 ·exact Or.inl h
 ·exact Or.inr ⟨g,o,cap,h1,h2,Nat.lt_of_lt_of_le h3 hb.size,h4.kept hb h3⟩
end Go.Proofs.YtbennamieealbaaGreatDoor
