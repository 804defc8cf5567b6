/-
  Parts of a proof, joined.
-/
import Derived.Test.YtbennamieealbaaGreatDoorZg24
import Derived.Deep.MidRow
set_option linter.unusedVariables false
set_option maxRecDepth 100000
set_option maxHeartbeats 1600000
namespace Go.Proofs.YtbennamieealbaaGreatDoor
open Go.ChangeShapes Go.WideShapes Go.ChangeAt Go.RowKit
theorem zo2 (k:Nat) (hk:k<32) (h30:k≠30) (hm:O.mask k=7) (a b:Int) (ha:0<=a) (ha':a<=65535) (hb:0<=b) (hb':b<=65535) (hak:a/2048=k) (w:World) (hs:shapesAt w) :
 Calls Tryz.prog 259 #[.int .u16 a,.int .u16 b] w λe w'=>e = .returned (.tuple #[.agg #[.int .i64 k,.int .i64 (a/256%8),.int .i64 (a/32%8),.int .i64 (M.low a 5),.int .i64 (0)],.int .i64 1])/\Below w.heap.size w w':=by
 have hwd:=zaS (.string (O.nameS k)) (.int .i64 (K.cyc k)) k hk
 have HS:=hid hs
 have HM:=hid hm
 have HW:=hid hwd
 rw [hm] at HW
 have eD:=(zbx (a/256) (by omega) (by omega)).1
 have eS:=(zbx (a/32) (by omega) (by omega)).1
 clear hs hm hwd
 go_enter Tryz.func259,Tryz.ntmps259
 go_wp2_with (first
  | (go_at_call 209;refine (zaW k hk h30 _ (zaB HS.out _)).mono ?_;rw [HM.out];rintro e w1 ⟨rfl,hb1⟩;obtain ⟨hc1,hf1⟩:=bcell hb1;have hz1:w.heap.size<w1.heap.size:=by have:=hb1.size;simp at this;omega)
  | (go_at_call 315;refine (zbX _ _ _ (by omega) (by omega) (by omega) (by omega)).mono ?_;rintro e w' ⟨rfl,rfl⟩))
 clear eD eS
 go_region_held3 (λw'=>w'.cell? ⟨w1.heap.size,0,none⟩=some (.string (O.nameS k))/\w'.cell? ⟨w1.heap.size,1,none⟩=some (.int .i64 (K.cyc k))/\w'.cell? ⟨w1.heap.size,2,none⟩=some (.int .i64 7)/\w'.cell? ⟨w1.heap.size+1,0,none⟩=some (.int .i64 (k))/\w'.cell? ⟨w1.heap.size+1,1,none⟩=some (.int .i64 (a/256%8))/\w'.cell? ⟨w1.heap.size+1,2,none⟩=some (.int .i64 (a/32%8))/\w'.cell? ⟨w1.heap.size+1,3,none⟩=some (.int .i64 (M.low a 5))/\w'.cell? ⟨w1.heap.size+1,4,none⟩=some (.int .i64 (0)))
  (first
    | with_reducible exact held8 hb2
    | with_reducible exact held8s hz1 (by assumption)
    | (go_keep;done))
  ((go_at_call 260;refine (HW.out _).mono ?_;rintro e w2 ⟨rfl,hb2⟩;obtain ⟨hc2,hf2⟩:=newRes hb1 hb2))
 go_wp2
 refine bodyPost_ret (v:=.tuple #[.agg #[.int .i64 k,.int .i64 (a/256%8),.int .i64 (a/32%8),.int .i64 (M.low a 5),.int .i64 (0)],.int .i64 1]) (by simp [results,Tryz.results259,go_sem,hc2,lenOf]) rfl ⟨rfl,?_⟩
 exact (((((stp (stA (stA (stp (stA (st0 _) _) hb1) _) _).drew hb2).setCell (Nat.le_refl _) _).setCell (Nat.le_refl _) _).setCell (Nat.le_refl _) _).setCell (Nat.le_refl _) _).setCell (Nat.le_refl _) _
theorem zo3 (k:Nat) (hk:k<32) (h30:k≠30) (hm:O.mask k=8) (a b:Int) (ha:0<=a) (ha':a<=65535) (hb:0<=b) (hb':b<=65535) (hak:a/2048=k) (w:World) (hs:shapesAt w) :
 Calls Tryz.prog 259 #[.int .u16 a,.int .u16 b] w λe w'=>e = .returned (.tuple #[.agg #[.int .i64 k,.int .i64 (0),.int .i64 (0),.int .i64 (0),.int .i64 (b)],.int .i64 2])/\Below w.heap.size w w':=by
 have hwd:=zaS (.string (O.nameS k)) (.int .i64 (K.cyc k)) k hk
 have HS:=hid hs
 have HM:=hid hm
 have HW:=hid hwd
 rw [hm] at HW
 clear hs hm hwd
 go_enter Tryz.func259,Tryz.ntmps259
 go_wp2_with (first
  | (go_at_call 209;refine (zaW k hk h30 _ (zaB HS.out _)).mono ?_;rw [HM.out];rintro e w1 ⟨rfl,hb1⟩;obtain ⟨hc1,hf1⟩:=bcell hb1;have hz1:w.heap.size<w1.heap.size:=by have:=hb1.size;simp at this;omega))
 go_region_held3 (λw'=>w'.cell? ⟨w1.heap.size,0,none⟩=some (.string (O.nameS k))/\w'.cell? ⟨w1.heap.size,1,none⟩=some (.int .i64 (K.cyc k))/\w'.cell? ⟨w1.heap.size,2,none⟩=some (.int .i64 8)/\w'.cell? ⟨w1.heap.size+1,0,none⟩=some (.int .i64 (k))/\w'.cell? ⟨w1.heap.size+1,1,none⟩=some (.int .i64 (0))/\w'.cell? ⟨w1.heap.size+1,2,none⟩=some (.int .i64 (0))/\w'.cell? ⟨w1.heap.size+1,3,none⟩=some (.int .i64 (0))/\w'.cell? ⟨w1.heap.size+1,4,none⟩=some (.int .i64 (b)))
  (first
    | with_reducible exact held8 hb2
    | with_reducible exact held8s hz1 (by assumption)
    | (go_keep;done))
  ((go_at_call 260;refine (HW.out _).mono ?_;rintro e w2 ⟨rfl,hb2⟩;obtain ⟨hc2,hf2⟩:=newRes hb1 hb2))
 go_wp2
 refine bodyPost_ret (v:=.tuple #[.agg #[.int .i64 k,.int .i64 (0),.int .i64 (0),.int .i64 (0),.int .i64 (b)],.int .i64 2]) (by simp [results,Tryz.results259,go_sem,hc2,lenOf]) rfl ⟨rfl,?_⟩
 exact (((((stp (stA (stA (stp (stA (st0 _) _) hb1) _) _).drew hb2).setCell (Nat.le_refl _) _).setCell (Nat.le_refl _) _).setCell (Nat.le_refl _) _).setCell (Nat.le_refl _) _).setCell (Nat.le_refl _) _
theorem zo4 (k:Nat) (hk:k<32) (h30:k≠30) (hm:O.mask k=9) (a b:Int) (ha:0<=a) (ha':a<=65535) (hb:0<=b) (hb':b<=65535) (hak:a/2048=k) (w:World) (hs:shapesAt w) :
 Calls Tryz.prog 259 #[.int .u16 a,.int .u16 b] w λe w'=>e = .returned (.tuple #[.agg #[.int .i64 k,.int .i64 (a/256%8),.int .i64 (0),.int .i64 (0),.int .i64 (b)],.int .i64 2])/\Below w.heap.size w w':=by
 have hwd:=zaS (.string (O.nameS k)) (.int .i64 (K.cyc k)) k hk
 have HS:=hid hs
 have HM:=hid hm
 have HW:=hid hwd
 rw [hm] at HW
 have eD:=(zbx (a/256) (by omega) (by omega)).1
 clear hs hm hwd
 go_enter Tryz.func259,Tryz.ntmps259
 go_wp2_with (first
  | (go_at_call 209;refine (zaW k hk h30 _ (zaB HS.out _)).mono ?_;rw [HM.out];rintro e w1 ⟨rfl,hb1⟩;obtain ⟨hc1,hf1⟩:=bcell hb1;have hz1:w.heap.size<w1.heap.size:=by have:=hb1.size;simp at this;omega))
 clear eD
 go_region_held3 (λw'=>w'.cell? ⟨w1.heap.size,0,none⟩=some (.string (O.nameS k))/\w'.cell? ⟨w1.heap.size,1,none⟩=some (.int .i64 (K.cyc k))/\w'.cell? ⟨w1.heap.size,2,none⟩=some (.int .i64 9)/\w'.cell? ⟨w1.heap.size+1,0,none⟩=some (.int .i64 (k))/\w'.cell? ⟨w1.heap.size+1,1,none⟩=some (.int .i64 (a/256%8))/\w'.cell? ⟨w1.heap.size+1,2,none⟩=some (.int .i64 (0))/\w'.cell? ⟨w1.heap.size+1,3,none⟩=some (.int .i64 (0))/\w'.cell? ⟨w1.heap.size+1,4,none⟩=some (.int .i64 (b)))
  (first
    | with_reducible exact held8 hb2
    | with_reducible exact held8s hz1 (by assumption)
    | (go_keep;done))
  ((go_at_call 260;refine (HW.out _).mono ?_;rintro e w2 ⟨rfl,hb2⟩;obtain ⟨hc2,hf2⟩:=newRes hb1 hb2))
 go_wp2
 refine bodyPost_ret (v:=.tuple #[.agg #[.int .i64 k,.int .i64 (a/256%8),.int .i64 (0),.int .i64 (0),.int .i64 (b)],.int .i64 2]) (by simp [results,Tryz.results259,go_sem,hc2,lenOf]) rfl ⟨rfl,?_⟩
 exact (((((stp (stA (stA (stp (stA (st0 _) _) hb1) _) _).drew hb2).setCell (Nat.le_refl _) _).setCell (Nat.le_refl _) _).setCell (Nat.le_refl _) _).setCell (Nat.le_refl _) _).setCell (Nat.le_refl _) _
theorem znr (k:Nat) (hk:k<32) (h30:k≠30) (hm:O.mask k=17) (a b:Int) (ha:0<=a) (ha':a<=65535) (hb:0<=b) (hb':b<=65535) (hak:a/2048=k) (w:World) (hs:shapesAt w) :
 Calls Tryz.prog 259 #[.int .u16 a,.int .u16 b] w λe w'=>e = .returned (.tuple #[.agg #[.int .i64 k,.int .i64 (a/256%8),.int .i64 (0),.int .i64 (a%16),.int .i64 (0)],.int .i64 1])/\Below w.heap.size w w':=by
 have hwd:=zaS (.string (O.nameS k)) (.int .i64 (K.cyc k)) k hk
 have HS:=hid hs
 have HM:=hid hm
 have HW:=hid hwd
 rw [hm] at HW
 have eD:=(zbx (a/256) (by omega) (by omega)).1
 have eN:=(zbx a ha ha').2
 clear hs hm hwd
 go_enter Tryz.func259,Tryz.ntmps259
 go_wp2_with (first
  | (go_at_call 209;refine (zaW k hk h30 _ (zaB HS.out _)).mono ?_;rw [HM.out];rintro e w1 ⟨rfl,hb1⟩;obtain ⟨hc1,hf1⟩:=bcell hb1;have hz1:w.heap.size<w1.heap.size:=by have:=hb1.size;simp at this;omega))
 clear eD eN
 go_region_held3 (λw'=>w'.cell? ⟨w1.heap.size,0,none⟩=some (.string (O.nameS k))/\w'.cell? ⟨w1.heap.size,1,none⟩=some (.int .i64 (K.cyc k))/\w'.cell? ⟨w1.heap.size,2,none⟩=some (.int .i64 17)/\w'.cell? ⟨w1.heap.size+1,0,none⟩=some (.int .i64 (k))/\w'.cell? ⟨w1.heap.size+1,1,none⟩=some (.int .i64 (a/256%8))/\w'.cell? ⟨w1.heap.size+1,2,none⟩=some (.int .i64 (0))/\w'.cell? ⟨w1.heap.size+1,3,none⟩=some (.int .i64 (a%16))/\w'.cell? ⟨w1.heap.size+1,4,none⟩=some (.int .i64 (0)))
  (first
    | with_reducible exact held8 hb2
    | with_reducible exact held8s hz1 (by assumption)
    | (go_keep;done))
  ((go_at_call 260;refine (HW.out _).mono ?_;rintro e w2 ⟨rfl,hb2⟩;obtain ⟨hc2,hf2⟩:=newRes hb1 hb2))
 go_wp2
 refine bodyPost_ret (v:=.tuple #[.agg #[.int .i64 k,.int .i64 (a/256%8),.int .i64 (0),.int .i64 (a%16),.int .i64 (0)],.int .i64 1]) (by simp [results,Tryz.results259,go_sem,hc2,lenOf]) rfl ⟨rfl,?_⟩
 exact (((((stp (stA (stA (stp (stA (st0 _) _) hb1) _) _).drew hb2).setCell (Nat.le_refl _) _).setCell (Nat.le_refl _) _).setCell (Nat.le_refl _) _).setCell (Nat.le_refl _) _).setCell (Nat.le_refl _) _
theorem zo5 {w w1:World} {o:Obj} (hb:Below (w.alloc o).heap.size (w.alloc o) w1):w.heap.size<w1.heap.size:=by have:=hb.size;simp at this;omega
theorem trapAt {w:World} (h:shapesAt w):w.cell? ⟨2,93,none⟩=some (.string (O.nameS 31))/\w.cell? ⟨2,94,none⟩=some (.int .i64 (K.cyc 31))/\w.cell? ⟨2,95,none⟩=some (.int .i64 0):=by
 obtain ⟨a,b,c⟩:=h 31 (by omega)
 exact ⟨a,b,c⟩
theorem zi5 (a b:Int) (ha:0<=a) (ha':a<=65535) (hb:0<=b) (hb':b<=65535) (hak:a/2048=30) (w:World) (hs:shapesAt w) :
 Calls Tryz.prog 259 #[.int .u16 a,.int .u16 b] w λe w'=>e = .returned (.tuple #[.agg #[.int .i64 31,.int .i64 0,.int .i64 0,.int .i64 0,.int .i64 0],.int .i64 1])/\Below w.heap.size w w':=by
 have HW:Hid (∀ w:World,Calls Tryz.prog 260 #[.agg #[.string (O.nameS 31),.int .i64 (K.cyc 31),.int .i64 0]] w λe w'=>e = .returned (.int .i64 1)/\Below w.heap.size w w'):=λw=>zaS (.string (O.nameS 31)) (.int .i64 (K.cyc 31)) 31 (by omega) w
 have HS:=hid hs
 have hg:2<w.heap.size:=hs.lt
 clear hs
 go_enter Tryz.func259,Tryz.ntmps259
 go_wp2_with (first
  | (go_at_call 209;refine (zkJ 30 (by decide) _ (zaB HS.out _)).mono ?_;rintro e w1 ⟨rfl,hb1⟩;obtain ⟨c0,c1,c2⟩:=trapAt ((zaB HS.out _).kept hb1);have hz1:=zo5 hb1;have hg1:2<w1.heap.size:=Nat.lt_trans hg hz1;have hg0:0<w1.heap.size:=Nat.lt_of_le_of_lt (Nat.zero_le _) hg1))
 go_region_held3 (λw'=>w'.cell? ⟨w1.heap.size,0,none⟩=some (.string (O.nameS 31))/\w'.cell? ⟨w1.heap.size,1,none⟩=some (.int .i64 (K.cyc 31))/\w'.cell? ⟨w1.heap.size,2,none⟩=some (.int .i64 0)/\w'.cell? ⟨w1.heap.size+1,0,none⟩=some (.int .i64 31)/\w'.cell? ⟨w1.heap.size+1,1,none⟩=some (.int .i64 0)/\w'.cell? ⟨w1.heap.size+1,2,none⟩=some (.int .i64 0)/\w'.cell? ⟨w1.heap.size+1,3,none⟩=some (.int .i64 0)/\w'.cell? ⟨w1.heap.size+1,4,none⟩=some (.int .i64 0))
  (first
    | with_reducible exact held8 hb2
    | with_reducible exact held8s hz1 (by assumption)
    | (go_keep;done))
  ((go_at_call 260;refine (HW.out _).mono ?_;rintro e w2 ⟨rfl,hb2⟩;obtain ⟨hc2,hf2⟩:=newRes hb1 hb2))
 go_wp2
 refine bodyPost_ret (v:=.tuple #[.agg #[.int .i64 31,.int .i64 0,.int .i64 0,.int .i64 0,.int .i64 0],.int .i64 1]) (by simp [results,Tryz.results259,go_sem,hc2]) rfl ⟨rfl,?_⟩
 exact (((((stp (stA (stA (stp (stA (st0 _) _) hb1) _) _).drew hb2).setCell (Nat.le_refl _) _).setCell (Nat.le_refl _) _).setCell (Nat.le_refl _) _).setCell (Nat.le_refl _) _).setCell (Nat.le_refl _) _
def orderV (a b:Int):Value:=.agg #[.int .i64 (O.rOp a),.int .i64 (O.rD a),.int .i64 (O.rS a),.int .i64 (O.rN a),.int .i64 (O.rW a b)]
theorem zg3 (k:Nat) (hk:k<32) (a b:Int) (hr:O.rOp a=k) :
 O.rD a=(if O.mask k%2=1 then a/256%8 else 0)/\O.rS a=(if O.mask k/2%2=1 then a/32%8 else 0)/\O.rN a=(if O.mask k/16%2=1 then a%16 else if O.mask k/4%2=1 then M.low a 5 else 0) /\
  O.rW a b=(if O.mask k/8%2=1 then b else 0)/\O.rLen a=lenOf (O.mask k):=by
 have hkk:O.rk a=k:=by unfold O.rk;rw [hr];rfl
 have h:∀ k,k<32->O.hasC k 100=decide (O.mask k%2=1)/\O.hasC k 115=decide (O.mask k/2%2=1)/\O.hasC k 119=decide (O.mask k/8%2=1) /\
  (O.hasC k 110=(decide (O.mask k/16%2=1) || decide (O.mask k/4%2=1)))/\(decide (O.mask k/16%2=1)=decide (k=12 \/ k=13)):=by decide +kernel
 obtain ⟨h1,h2,h3,h4,h5⟩:=h k hk
 unfold O.rD O.rS O.rN O.rW O.rLen lenOf
 rw [hkk,h1,h2,h3,h4]
 refine ⟨by simp only [decide_eq_true_eq],by simp only [decide_eq_true_eq],?_,by simp only [decide_eq_true_eq],by simp only [decide_eq_true_eq]⟩
 unfold O.nOf
 have h5':=decide_eq_decide.1 h5
 by_cases c:O.mask k/16%2=1
 ·simp only [c,decide_true,Bool.true_or,if_true,if_pos (h5'.1 c)]
 ·have c':¬ (k=12 \/ k=13):=λx=>c (h5'.2 x)
  rw [if_neg c',if_neg c,decide_eq_false c,O.low_5]
  simp only [Bool.false_or,decide_eq_true_eq]
theorem zfk (a b:Int) (ha:0<=a/\a<=65535) (hb:0<=b/\b<=65535) (w:World) (hs:shapesAt w) :
 Calls Tryz.prog 259 #[.int .u16 a,.int .u16 b] w λe w'=>e = .returned (.tuple #[orderV a b,.int .i64 (O.rLen a)])/\Below w.heap.size w w':=by
 by_cases h30:a/2048=30
 ·have hr:O.rOp a=((31:Nat):Int):=by unfold O.rOp;rw [if_pos h30];rfl
  obtain ⟨p1,p2,p3,p4,p5⟩:=zg3 31 (by omega) a b hr
  have em:O.mask 31=0:=by decide +kernel
  rw [em] at p1 p2 p3 p4 p5
  unfold orderV
  rw [hr,p1,p2,p3,p4,p5]
  exact zi5 a b ha.1 ha.2 hb.1 hb.2 h30 w hs
 ·obtain ⟨k,hk⟩:=Int.eq_ofNat_of_zero_le (show 0<=a/2048 by omega)
  have hr:O.rOp a=(k:Int):=by unfold O.rOp;rw [if_neg h30,hk]
  obtain ⟨p1,p2,p3,p4,p5⟩:=zg3 k (by omega) a b hr
  unfold orderV
  rw [hr,p1,p2,p3,p4,p5]
  clear p1 p2 p3 p4 p5
  rcases O.mask_or k (by omega) with h|h|h|h|h|h|h|h|h <;> rw [h]
  ·exact zoX k (by omega) (by omega) h a b ha.1 ha.2 hb.1 hb.2 hk w hs
  ·exact zoY k (by omega) (by omega) h a b ha.1 ha.2 hb.1 hb.2 hk w hs
  ·exact zoZ k (by omega) (by omega) h a b ha.1 ha.2 hb.1 hb.2 hk w hs
  ·exact zo0 k (by omega) (by omega) h a b ha.1 ha.2 hb.1 hb.2 hk w hs
  ·exact zo1 k (by omega) (by omega) h a b ha.1 ha.2 hb.1 hb.2 hk w hs
  ·exact zo2 k (by omega) (by omega) h a b ha.1 ha.2 hb.1 hb.2 hk w hs
  ·exact zo3 k (by omega) (by omega) h a b ha.1 ha.2 hb.1 hb.2 hk w hs
  ·exact zo4 k (by omega) (by omega) h a b ha.1 ha.2 hb.1 hb.2 hk w hs
  ·exact znr k (by omega) (by omega) h a b ha.1 ha.2 hb.1 hb.2 hk w hs
abbrev actsL (b12 b13 b16 b17 b18 b19 b29:Nat):Array Value :=
 #[fv 261 #[],fv 262 #[],fv 263 #[],fv 264 #[],fv 266 #[],fv 268 #[],fv 269 #[],fv 271 #[],fv 271 #[],fv 271 #[],fv 271 #[],fv 271 #[],
   fv 316 #[.pointer (some ⟨b12,0,none⟩)],fv 316 #[.pointer (some ⟨b13,0,none⟩)],fv 275 #[],fv 277 #[],
   fv 320 #[.pointer (some ⟨b16,0,none⟩)],fv 320 #[.pointer (some ⟨b17,0,none⟩)],fv 320 #[.pointer (some ⟨b18,0,none⟩)],fv 320 #[.pointer (some ⟨b19,0,none⟩)],
   fv 283 #[],fv 284 #[],fv 286 #[],fv 287 #[],fv 288 #[],fv 289 #[],fv 290 #[],fv 292 #[],fv 271 #[],
   fv 320 #[.pointer (some ⟨b29,0,none⟩)],.nilFunc,fv 294 #[]]
theorem zhL (g:Nat) (w:World):Calls Tryz.prog 272 #[fv g #[]] w λe w'=>e = .returned (fv 316 #[.pointer (some ⟨w.heap.size,0,none⟩)])/\w'=w.alloc (.cells #[fv g #[]] 354):=by
 go_enter Tryz.func272,Tryz.ntmps272
 go_wp2
 go_ret
 exact ⟨rfl,rfl⟩
theorem zi6 (g:Nat) (w:World):Calls Tryz.prog 278 #[fv g #[]] w λe w'=>e = .returned (fv 320 #[.pointer (some ⟨w.heap.size,0,none⟩)])/\w'=w.alloc (.cells #[fv g #[]] 357):=by
 go_enter Tryz.func278,Tryz.ntmps278
 go_wp2
 go_ret
 exact ⟨rfl,rfl⟩
theorem zds (w:World) (cs:Array Value) (t:TypeId) (n:Nat) (h:cs.size=n):(w.alloc (.cells cs t)).there w.heap.size 0 n:=λj hj=>by
 refine ⟨?_,Lib.frozen_of_heap (heap_alloc_new w _) _⟩
 rw [zav _ _ _ _ rfl,Array.getElem?_eq_getElem (by omega)]
 rfl
theorem below_setCells {n:Nat} {a:World} {b:Nat} (hb:n<=b):∀ (vs:List Value) (o:Nat) (w:World),Below n a w->Below n a (w.setCells b o vs)
 | [],o,w,h=>h
 | v::vs,o,w,h=>below_setCells hb vs (o+1) _ (h.setCell hb v)
theorem cutL {P:Program} {ops:Array Oper} {rest:List Oper} {Q:Exit->Act->World->Prop} {a:Act} {w:World} (K:World->Prop) (h:K w) (k:∀ w',K w'->wpList P ops Q rest a w'):wpList P ops Q rest a w:=k w h
theorem zi7 (a b c d e f g:Nat):(actsL a b c d e f g).all (·.oneCell')=true:=by simp [actsL,Value.oneCell']
theorem zfT:(Tryz.prog.info? 320).map (·.size)=some 32:=by kernel_rfl
theorem zhM:Tryz.prog.underlying 320=some (.array 32 319):=by kernel_rfl
def boxes (W:World) (b12 b13 b16 b17 b18 b19 b29:Nat):Prop :=
 W.cell? ⟨b12,0,none⟩=some (fv 273 #[])/\W.cell? ⟨b13,0,none⟩=some (fv 274 #[])/\W.cell? ⟨b16,0,none⟩=some (fv 279 #[])/\W.cell? ⟨b17,0,none⟩=some (fv 280 #[])/\W.cell? ⟨b18,0,none⟩=some (fv 281 #[])/\W.cell? ⟨b19,0,none⟩=some (fv 282 #[])/\W.cell? ⟨b29,0,none⟩=some (fv 293 #[])
theorem zlq (w:World) (L:List Value) (z:Obj) (t t':TypeId):boxes (((((((((w.alloc z).alloc (.cells #[fv 273 #[]] t)).alloc (.cells #[fv 274 #[]] t)).alloc (.cells #[fv 279 #[]] t')).alloc (.cells #[fv 280 #[]] t')).alloc (.cells #[fv 281 #[]] t')).alloc (.cells #[fv 282 #[]] t')).alloc (.cells #[fv 293 #[]] t')).setCells w.heap.size 0 L)
 (w.heap.size+1) (w.heap.size+1+1) (w.heap.size+1+1+1) (w.heap.size+1+1+1+1) (w.heap.size+1+1+1+1+1) (w.heap.size+1+1+1+1+1+1) (w.heap.size+1+1+1+1+1+1+1):=by
 have out:∀ (X:World) (b':Nat),b'≠w.heap.size->(X.setCells w.heap.size 0 L).cell? ⟨b',0,none⟩=X.cell? ⟨b',0,none⟩:=λX b' h=>World.cell?_setCells_out _ L 0 X _ (λe=>absurd e h)
 unfold boxes
 refine ⟨?_,?_,?_,?_,?_,?_,?_⟩ <;> rw [out _ _ (by omega)]
 ·rw [World.cell?_alloc_lt _ _ _ (by simp <;> omega),World.cell?_alloc_lt _ _ _ (by simp <;> omega),World.cell?_alloc_lt _ _ _ (by simp <;> omega),World.cell?_alloc_lt _ _ _ (by simp <;> omega),World.cell?_alloc_lt _ _ _ (by simp <;> omega),World.cell?_alloc_lt _ _ _ (by simp <;> omega),zav _ _ _ _ (by simp)];rfl
 ·rw [World.cell?_alloc_lt _ _ _ (by simp <;> omega),World.cell?_alloc_lt _ _ _ (by simp <;> omega),World.cell?_alloc_lt _ _ _ (by simp <;> omega),World.cell?_alloc_lt _ _ _ (by simp <;> omega),World.cell?_alloc_lt _ _ _ (by simp <;> omega),zav _ _ _ _ (by simp)];rfl
 ·rw [World.cell?_alloc_lt _ _ _ (by simp <;> omega),World.cell?_alloc_lt _ _ _ (by simp <;> omega),World.cell?_alloc_lt _ _ _ (by simp <;> omega),World.cell?_alloc_lt _ _ _ (by simp <;> omega),zav _ _ _ _ (by simp)];rfl
 ·rw [World.cell?_alloc_lt _ _ _ (by simp <;> omega),World.cell?_alloc_lt _ _ _ (by simp <;> omega),World.cell?_alloc_lt _ _ _ (by simp <;> omega),zav _ _ _ _ (by simp)];rfl
 ·rw [World.cell?_alloc_lt _ _ _ (by simp <;> omega),World.cell?_alloc_lt _ _ _ (by simp <;> omega),zav _ _ _ _ (by simp)];rfl
 ·rw [World.cell?_alloc_lt _ _ _ (by simp <;> omega),zav _ _ _ _ (by simp)];rfl
 ·rw [zav _ _ _ _ (by simp)];rfl
theorem zg4 (w:World):Calls Tryz.prog 232 #[] w λe w'=>∃ b12 b13 b16 b17 b18 b19 b29,e = .returned (.agg (actsL b12 b13 b16 b17 b18 b19 b29))/\boxes w' b12 b13 b16 b17 b18 b19 b29/\Below w.heap.size w w':=by
 have hload:∀ W:World,W.rangeAt w.heap.size 0 (actsL (w.heap.size+1) (w.heap.size+1+1) (w.heap.size+1+1+1) (w.heap.size+1+1+1+1) (w.heap.size+1+1+1+1+1) (w.heap.size+1+1+1+1+1+1) (w.heap.size+1+1+1+1+1+1+1)).toList->(loadVar 320 ⟨w.heap.size,0,none⟩).run Tryz.prog W = .ok (.agg (actsL (w.heap.size+1) (w.heap.size+1+1) (w.heap.size+1+1+1) (w.heap.size+1+1+1+1) (w.heap.size+1+1+1+1+1) (w.heap.size+1+1+1+1+1+1) (w.heap.size+1+1+1+1+1+1+1))) W:=λW h =>
  run_loadVar_mid W w.heap.size 0 320 _ (.array 32 319) h zhM rfl zfT
 have HL:=hid hload
 clear hload
 go_enter Tryz.func232,Tryz.ntmps232
 go_wp2_with (first
  | (go_at_call 272;refine (zhL _ _).mono ?_;rintro e w' ⟨rfl,rfl⟩)
  | (go_at_call 278;refine (zi6 _ _).mono ?_;rintro e w' ⟨rfl,rfl⟩)
  | (refine wpList_store_mid rfl 320 (.tmp 0) (.tmp 8) rfl w.heap.size 0 _ rfl rfl ?_ ?_ ?_ ?_
     ·exact World.there_alloc (World.there_alloc (World.there_alloc (World.there_alloc (World.there_alloc (World.there_alloc (World.there_alloc (zds w _ _ 32 rfl) _) _) _) _) _) _) _
     ·exact zfT
     ·exact zi7 (w.heap.size+1) (w.heap.size+1+1) (w.heap.size+1+1+1) (w.heap.size+1+1+1+1) (w.heap.size+1+1+1+1+1) (w.heap.size+1+1+1+1+1+1) (w.heap.size+1+1+1+1+1+1+1)
     refine cutL (λW=>W.rangeAt w.heap.size 0 (actsL (w.heap.size+1) (w.heap.size+1+1) (w.heap.size+1+1+1) (w.heap.size+1+1+1+1) (w.heap.size+1+1+1+1+1) (w.heap.size+1+1+1+1+1+1) (w.heap.size+1+1+1+1+1+1+1)).toList/\boxes W (w.heap.size+1) (w.heap.size+1+1) (w.heap.size+1+1+1) (w.heap.size+1+1+1+1) (w.heap.size+1+1+1+1+1) (w.heap.size+1+1+1+1+1+1) (w.heap.size+1+1+1+1+1+1+1)/\Below w.heap.size w W) ⟨?_,?_,?_⟩ ?_
     ·exact World.rangeAt_setCells_same _ _ _ _ (World.there_alloc (World.there_alloc (World.there_alloc (World.there_alloc (World.there_alloc (World.there_alloc (World.there_alloc (zds w _ _ 32 rfl) _) _) _) _) _) _) _)
     ·exact zlq w _ _ _ _
     ·exact below_setCells (Nat.le_refl _) _ _ _ (stA (stA (stA (stA (stA (stA (stA (stA (st0 w) _) _) _) _) _) _) _) _)
     rintro W ⟨hR,hX,hB⟩
     have HRG:=hid hR
     have HX:=hid hX
     have HB:=hid hB
     clear hR hX hB))
 have hl:=HL.out W HRG.out
 exact bodyPost_ret (v:=.agg (actsL (w.heap.size+1) (w.heap.size+1+1) (w.heap.size+1+1+1) (w.heap.size+1+1+1+1) (w.heap.size+1+1+1+1+1) (w.heap.size+1+1+1+1+1+1) (w.heap.size+1+1+1+1+1+1+1))) (by simp only [results,Tryz.results232];simp;exact hl) rfl ⟨_,_,_,_,_,_,_,rfl,HX.out,HB.out⟩
section
variable {σ : Type} {m : C.Mem σ} {B nr nw : Nat} {cr cw : Array Value × Array Value} {I : World -> σ -> Prop} {T : σ -> Nat -> Prop}
theorem PI.boxF (R:RS m B nr nw cr cw I T) {w w0 w1:World} {p:Nat} {x:C.St σ} {s':σ} {cs:Array Value} {t:TypeId} (h:PI B nr nw cr cw I T w p x) (hm:PM B T p x.s s' w0 w1) (e:w0.heap=(w.alloc (.cells cs t)).heap) (ht:t≠66:=by decide):∀ o,w1.frozen? ⟨w.heap.size,o,none⟩=false:=λo=>by
 have hlt:w.heap.size<w0.heap.size:=by rw [e];simp
 rw [PM.froz hm hlt (by have:=h.lt;omega) (R.outN h.inv e ht) o]
 exact (World.frozen?_of_block (w:=w.alloc (.cells cs t)) (by rw [e])).trans (Lib.frozen_of_heap (heap_alloc_new w _) o)
theorem PI.apart (R:RS m B nr nw cr cw I T) {w w0 w1:World} {p:Nat} {x:C.St σ} {s':σ} {cs:Array Value} {t:TypeId} (h:PI B nr nw cr cw I T w p x) (hm:PM B T p x.s s' w0 w1) (e:w0.heap=(w.alloc (.cells cs t)).heap) (hty:t≠66:=by decide):¬ Tw T w1 s' w.heap.size/\w.heap.size≠p:=by
 have hlt:w.heap.size<w0.heap.size:=by rw [e];simp
 have hp:=h.lt
 refine ⟨λht=>?_,by omega⟩
 rcases hm.fresh _ (Or.inr ht) with (hx|hx)|hx
 ·omega
 ·exact R.outN h.inv e hty hx
 ·omega
theorem PI.other (R:RS m B nr nw cr cw I T) {w:World} {p:Nat} {x:C.St σ} (h:PI B nr nw cr cw I T w p x) {k:Nat} (hk:k≠p) (ht:¬ Tw T w x.s k) (i:Nat) (v:Value):PI B nr nw cr cw I T (w.setCell ⟨k,i,none⟩ v) p x :=
 ⟨R.keep h.inv (by rw [zba];exact Nat.le_refl _) (λj hj=>Below.heap_setCell _ _ _ _ (λe=>ht (by have e':j=k:=e;rw [<- e'];exact hj))),h.own,h.big,(Below.heap_setCell _ _ _ _ (λe=>hk (show p=k from e).symm)).trans h.blk,h.ok⟩
theorem PI.five (R:RS m B nr nw cr cw I T) {w:World} {p:Nat} {x:C.St σ} (h:PI B nr nw cr cw I T w p x) {k:Nat} (hk:k≠p) (ht:¬ Tw T w x.s k) (v0 v1 v2 v3 v4:Value) :
 PI B nr nw cr cw I T (((((w.setCell ⟨k,0,none⟩ v0).setCell ⟨k,1,none⟩ v1).setCell ⟨k,2,none⟩ v2).setCell ⟨k,3,none⟩ v3).setCell ⟨k,4,none⟩ v4) p x /\ ∀ j,¬ Tw T w x.s j->¬ Tw T (((((w.setCell ⟨k,0,none⟩ v0).setCell ⟨k,1,none⟩ v1).setCell ⟨k,2,none⟩ v2).setCell ⟨k,3,none⟩ v3).setCell ⟨k,4,none⟩ v4) x.s j :=
 have t1:=λy=>ht (Tw.set (T:=T) (a:=⟨k,0,none⟩) (v:=v0) y)
 have t2:=λy=>t1 (Tw.set (T:=T) (a:=⟨k,1,none⟩) (v:=v1) y)
 have t3:=λy=>t2 (Tw.set (T:=T) (a:=⟨k,2,none⟩) (v:=v2) y)
 have t4:=λy=>t3 (Tw.set (T:=T) (a:=⟨k,3,none⟩) (v:=v3) y)
 ⟨((((h.other R hk ht 0 v0).other R hk t1 1 v1).other R hk t2 2 v2).other R hk t3 3 v3).other R hk t4 4 v4,λj hj y=>hj (Tw.set (Tw.set (Tw.set (Tw.set (Tw.set y)))))⟩
theorem PM.setNew {w w':World} {p:Nat} {s s':σ} (h:PM B T p s s' w w') (hB:B<=w.heap.size) {k:Nat} (hk:w.heap.size<=k) (i:Nat) (v:Value):PM B T p s s' w (w'.setCell ⟨k,i,none⟩ v):=(Mv.setCell h (Nat.le_trans hB hk) (Or.inr hk) v).weak (λk hk=>Or.inl (hk.imp id Tw.set))
theorem zns (a:Int):O.rLen a=1 \/ O.rLen a=2:=by unfold O.rLen;split <;> simp
theorem zi8 (R:RS m B nr nw cr cw I T) (w:World) (p:Nat) (x:C.St σ) (hP:PI B nr nw cr cw I T w p x) (a:Int) (ha:(m.rdw x.s x.c.PC).1=a) (hl:O.rLen a=1) :
 Calls Tryz.prog 230 #[.pointer (some ⟨p,0,none⟩)] w λe w'=>e = .returned (orderV a 0)/\PI B nr nw cr cw I T w' p ⟨{ x.c with PC:=(x.c.PC+2)%65536 },(m.rdw x.s x.c.PC).2,x.n⟩/\PM B T p x.s (m.rdw x.s x.c.PC).2 w w':=by
 have hb:=R.word x.s x.c.PC
 rw [ha] at hb
 have HA:=hid ha
 have HN:=hid (λW (h:PI B nr nw cr cw I T W p x)=>zfi R W p x h)
 rw [ha] at HN
 have hlt:=hP.lt
 have HP:=hid hP
 have HR:=hid R
 have HB:=hid (hP.box R (.cells #[.int .i64 0,.int .i64 0,.int .i64 0,.int .i64 0,.int .i64 0] 225))
 have HM:=hid (PM.box R hP (.cells #[.int .i64 0,.int .i64 0,.int .i64 0,.int .i64 0,.int .i64 0] 225))
 have HL:=hid hl
 have hl1:¬ (1:Int)<O.rLen a:=by omega
 unfold orderV
 clear hP R ha hl
 go_enter Tryz.func230,Tryz.ntmps230
 go_wp2_with (first
  | (go_at_call 258;refine (HN.out _ ?_).mono ?_;(exact HB.out);rintro e w1 ⟨rfl,hP1,hm1⟩;obtain ⟨hz1,hq1⟩:=HP.out.boxS HR.out hm1 rfl;have hf1:=HP.out.boxF HR.out hm1 rfl;have HY1:=hid hP1;clear hP1)
  | (go_at_call 259;refine (zfk a 0 hb (by omega) _ (HR.out.shapes HY1.out.inv)).mono ?_;unfold orderV;rintro e w2 ⟨rfl,hb2⟩;obtain ⟨k2,g2⟩:=bcell hb2;have z2:w.heap.size<w2.heap.size:=Nat.lt_of_lt_of_le hz1 hb2.size))
 obtain ⟨ha1,hp1⟩:=HP.out.apart HR.out hm1 rfl
 refine bodyPost_ret (v:=.agg #[.int .i64 (O.rOp a),.int .i64 (O.rD a),.int .i64 (O.rS a),.int .i64 (O.rN a),.int .i64 (O.rW a 0)]) (by simp [results,Tryz.results230,go_sem,z2,k2,hz1,hq1]) rfl ⟨rfl,?_,?_⟩
 ·exact (((HY1.out.kept HR.out hb2).five HR.out hp1 (λy=>ha1 (y.same (hb2.block _ hz1))) _ _ _ _ _).1.box HR.out _).same HR.out rfl
 ·exact ((((((((HM.out.trans hm1).kept (HY1.out.hB HR.out) hb2).setNew (HP.out.hB HR.out) (Nat.le_refl _) 0 _).setNew (HP.out.hB HR.out) (Nat.le_refl _) 1 _).setNew (HP.out.hB HR.out) (Nat.le_refl _) 2 _).setNew (HP.out.hB HR.out) (Nat.le_refl _) 3 _).setNew (HP.out.hB HR.out) (Nat.le_refl _) 4 _).alloc (HP.out.hB HR.out) _)
theorem zi9 (R:RS m B nr nw cr cw I T) (w:World) (p:Nat) (x:C.St σ) (hP:PI B nr nw cr cw I T w p x) (a b:Int) (y1:C.St σ) (hy1:y1=⟨{ x.c with PC:=(x.c.PC+2)%65536 },(m.rdw x.s x.c.PC).2,x.n⟩) (ha:(m.rdw x.s x.c.PC).1=a) (hl:O.rLen a=2) (hbv:(m.rdw y1.s y1.c.PC).1=b) :
 Calls Tryz.prog 230 #[.pointer (some ⟨p,0,none⟩)] w λe w'=>e = .returned (orderV a b)/\PI B nr nw cr cw I T w' p ⟨{ y1.c with PC:=(y1.c.PC+2)%65536 },(m.rdw y1.s y1.c.PC).2,y1.n⟩/\PM B T p x.s (m.rdw y1.s y1.c.PC).2 w w':=by
 have hb:=R.word x.s x.c.PC
 rw [ha] at hb
 have hb':=R.word y1.s y1.c.PC
 rw [hbv] at hb'
 have HN:=hid (λW (h:PI B nr nw cr cw I T W p x)=>zfi R W p x h)
 rw [ha,<- hy1] at HN
 have HN2:=hid (λW (h:PI B nr nw cr cw I T W p y1)=>zfi R W p y1 h)
 rw [hbv] at HN2
 have es:y1.s=(m.rdw x.s x.c.PC).2:=by rw [hy1]
 rw [<- es] at HN
 have hlt:=hP.lt
 have HP:=hid hP
 have HR:=hid R
 have HB:=hid (hP.box R (.cells #[.int .i64 0,.int .i64 0,.int .i64 0,.int .i64 0,.int .i64 0] 225))
 have HM:=hid (PM.box R hP (.cells #[.int .i64 0,.int .i64 0,.int .i64 0,.int .i64 0,.int .i64 0] 225))
 have hl1:(1:Int)<O.rLen a:=by omega
 unfold orderV
 clear hP R ha hl hbv hy1 es
 go_enter Tryz.func230,Tryz.ntmps230
 go_wp2_with (first
  | (go_at_call 258;first
      | (refine (HN2.out _ ?_).mono ?_;(exact HB2.out);rintro e w3 ⟨rfl,hP3,hm3⟩;obtain ⟨z3,q3⟩:=HK2.out.boxS HR.out hm3 rfl;have hf3:=HK2.out.boxF HR.out hm3 rfl;have r30:=hKP.out w3 hm3;have HY3:=hid hP3;clear hP3)
      | (refine (HN.out _ ?_).mono ?_;(exact HB.out);rintro e w1 ⟨rfl,hP1,hm1⟩;obtain ⟨hz1,hq1⟩:=HP.out.boxS HR.out hm1 rfl;have hf1:=HP.out.boxF HR.out hm1 rfl;obtain ⟨ha1,hp1⟩:=HP.out.apart HR.out hm1 rfl;have HY1:=hid hP1;clear hP1))
  | (go_at_call 259;first
      | (refine (zfk a b hb hb' _ (HR.out.shapes HY3.out.inv)).mono ?_;unfold orderV;rintro e w4 ⟨rfl,hb4⟩;obtain ⟨k4,g4⟩:=bcell hb4;have z4:=Nat.lt_of_lt_of_le z3 hb4.size;have z4':=Nat.lt_of_lt_of_le r30.1 hb4.size)
      | (refine (zfk a 0 hb (by omega) _ (HR.out.shapes HY1.out.inv)).mono ?_;unfold orderV;rintro e w2 ⟨rfl,hb2⟩;obtain ⟨k2,g2⟩:=bcell hb2;have z2:w.heap.size<w2.heap.size:=Nat.lt_of_lt_of_le hz1 hb2.size;have HK2:=hid (HY1.out.kept HR.out hb2);have HB2:=hid ((HY1.out.kept HR.out hb2).box HR.out (.cells #[.int .i64 (O.rOp a),.int .i64 (O.rD a),.int .i64 (O.rS a),.int .i64 (O.rN a),.int .i64 (O.rW a 0)] 225));have hKP:Hid (∀ w3,PM B T p y1.s (m.rdw y1.s y1.c.PC).2 (w2.alloc (.cells #[.int .i64 (O.rOp a),.int .i64 (O.rD a),.int .i64 (O.rS a),.int .i64 (O.rN a),.int .i64 (O.rW a 0)] 225)) w3->w.heap.size<w3.heap.size/\(∀ o,w3.cell? ⟨w.heap.size,o,none⟩=w2.cell? ⟨w.heap.size,o,none⟩) /\ ∀ o,w3.frozen? ⟨w.heap.size,o,none⟩=false):=λw3 hm3=>⟨Nat.lt_of_lt_of_le (Nat.lt_of_lt_of_le z2 (by simp)) hm3.size,λo=>(PM.cell hm3 (by simp;omega) hp1 (λy=>ha1 ((y.same (heap_alloc_old _ _ z2)).same (hb2.block _ hz1))) o).trans (World.cell?_alloc_lt _ _ _ z2),λo=>(PM.froz hm3 (by simp;omega) hp1 (λy=>ha1 ((y.same (heap_alloc_old _ _ z2)).same (hb2.block _ hz1))) o).trans ((World.frozen?_of_block (w:=w2) (heap_alloc_old _ _ z2)).trans ((g2 _ _ hz1).trans (hf1 o)))⟩)))
 have hb3:¬ Tw T w3 (m.rdw y1.s y1.c.PC).2 w.heap.size:=λht=>by
  rcases hm3.fresh _ (Or.inr ht) with (hx|hx)|hx
  ·exact hp1 hx
  ·exact ha1 ((hx.same (Below.heap_alloc _ _ _ z2)).same (hb2.block _ hz1))
  ·simp at hx;omega
 obtain ⟨ha3,hp3⟩:=HK2.out.apart HR.out hm3 rfl
 refine bodyPost_ret (v:=.agg #[.int .i64 (O.rOp a),.int .i64 (O.rD a),.int .i64 (O.rS a),.int .i64 (O.rN a),.int .i64 (O.rW a b)]) (by simp [results,Tryz.results230,go_sem,k4,r30,k2,hz1,hq1]) rfl ⟨rfl,?_,?_⟩
 ·have h4:=HY3.out.kept HR.out hb4
  obtain ⟨h5,h6⟩:=h4.five HR.out hp3 (λy=>ha3 (y.same (hb4.block _ z3))) (.int .i64 (O.rOp a)) (.int .i64 (O.rD a)) (.int .i64 (O.rS a)) (.int .i64 (O.rN a)) (.int .i64 (O.rW a b))
  exact (h5.five HR.out hp1 (h6 _ (λy=>hb3 (y.same (hb4.block _ r30.1)))) _ _ _ _ _).1
 ·have hB:=HP.out.hB HR.out
  have hw2:w.heap.size<=w2.heap.size:=by omega
  exact ((((((((((((((HM.out.trans hm1).kept (HY1.out.hB HR.out) hb2).alloc hB _).trans hm3).kept (HY3.out.hB HR.out) hb4).setNew hB hw2 0 _).setNew hB hw2 1 _).setNew hB hw2 2 _).setNew hB hw2 3 _).setNew hB hw2 4 _).setNew hB (Nat.le_refl _) 0 _).setNew hB (Nat.le_refl _) 1 _).setNew hB (Nat.le_refl _) 2 _).setNew hB (Nat.le_refl _) 3 _).setNew hB (Nat.le_refl _) 4 _
theorem zja (R:RS m B nr nw cr cw I T) (w:World) (p:Nat) (x:C.St σ) (hP:PI B nr nw cr cw I T w p x) :
 Calls Tryz.prog 230 #[.pointer (some ⟨p,0,none⟩)] w λe w'=>e = .returned (orderV (C.word1 m x.c x.s) (C.word2 m x.c x.s))/\PI B nr nw cr cw I T w' p { C.behind m x.c x.s with n:=x.n }/\PM B T p x.s (C.behind m x.c x.s).s w w':=by
 rcases zns (C.word1 m x.c x.s) with h|h
 ·have h2:¬ O.rLen (C.word1 m x.c x.s)=2:=by omega
  have e1:C.word2 m x.c x.s=0:=by unfold C.word2;rw [if_neg h2]
  have e2:C.behind m x.c x.s=⟨{ x.c with PC:=(x.c.PC+2)%65536 },(m.rdw x.s x.c.PC).2,0⟩:=by unfold C.behind;rw [if_neg h2,h];rfl
  rw [e1,e2]
  exact zi8 R w p x hP _ rfl h
 ·have e1:C.word2 m x.c x.s=(m.rdw (m.rdw x.s x.c.PC).2 ((x.c.PC+2)%65536)).1:=by unfold C.word2;rw [if_pos h]
  have e2:C.behind m x.c x.s=⟨{ x.c with PC:=((x.c.PC+2)%65536+2)%65536 },(m.rdw (m.rdw x.s x.c.PC).2 ((x.c.PC+2)%65536)).2,0⟩:=by
   unfold C.behind
   rw [if_pos h,h]
   have:(x.c.PC+2*2)%65536=((x.c.PC+2)%65536+2)%65536:=by omega
   rw [this]
  rw [e1,e2]
  exact zi9 R w p x hP _ _ _ rfl rfl h rfl
end
end Go.Proofs.YtbennamieealbaaGreatDoor
