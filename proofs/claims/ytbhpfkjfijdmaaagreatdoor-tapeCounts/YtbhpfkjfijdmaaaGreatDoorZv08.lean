/-
  Parts of a proof, joined.
-/
import Derived.Test.YtbhpfkjfijdmaaaGreatDoorZv07
import Derived.Deep.MidRow
namespace Go.Proofs.YtbhpfkjfijdmaaaGreatDoor
open Go.ChangeShapes Go.WideShapes Go.ChangeAt Go.RowKit
set_option linter.unusedVariables false
set_option maxRecDepth 100000
set_option maxHeartbeats 1600000
theorem read_0 (k:Nat) (hk:k < 32) (h30:k ≠ 30) (hm:O.mask k=0) (a b:Int) (ha:0<=a) (ha':a<=65535) (hb:0<=b) (hb':b<=65535) (hak:a / 2048=k) (w:World) (hs:shapesAt w) :
 Calls Tryz.prog 184 #[.int .u16 a,.int .u16 b] w fun e w'=>e = .returned (.tuple #[.agg #[.int .i64 k,.int .i64 (0),.int .i64 (0),.int .i64 (0),.int .i64 (0)],.int .i64 1])/\Below w.heap.size w w':=by
 have hwd:=words_any (.string (O.nameS k)) (.int .i64 (K.cyc k)) k hk
 have HS:=hid hs
 have HM:=hid hm
 have HW:=hid hwd
 rw [hm] at HW
 clear hs hm hwd
 go_enter Tryz.func184,Tryz.ntmps184
 go_wp2_with (first
  | (go_at_call 155;refine (shape_yes k hk h30 _ (shapes_alloc HS.out _)).mono ?_;rw [HM.out];rintro e w1 ⟨rfl,hb1⟩;obtain ⟨hc1,hf1⟩:=bcell hb1;have hz1:w.heap.size < w1.heap.size:=by have:=hb1.size;simp at this;omega))
 go_region_held3 (fun w'=>w'.cell? ⟨w1.heap.size,0,none⟩=some (.string (O.nameS k))/\w'.cell? ⟨w1.heap.size,1,none⟩=some (.int .i64 (K.cyc k))/\w'.cell? ⟨w1.heap.size,2,none⟩=some (.int .i64 0)/\w'.cell? ⟨w1.heap.size+1,0,none⟩=some (.int .i64 (k))/\w'.cell? ⟨w1.heap.size+1,1,none⟩=some (.int .i64 (0))/\w'.cell? ⟨w1.heap.size+1,2,none⟩=some (.int .i64 (0))/\w'.cell? ⟨w1.heap.size+1,3,none⟩=some (.int .i64 (0))/\w'.cell? ⟨w1.heap.size+1,4,none⟩=some (.int .i64 (0)))
  (first
    | with_reducible exact held8 hb2
    | with_reducible exact held8s hz1 (by assumption)
    | (go_keep;done))
  ((go_at_call 206;refine (HW.out _).mono ?_;rintro e w2 ⟨rfl,hb2⟩;obtain ⟨hc2,hf2⟩:=newRes hb1 hb2))
 go_wp2
 refine bodyPost_ret (v:=.tuple #[.agg #[.int .i64 k,.int .i64 (0),.int .i64 (0),.int .i64 (0),.int .i64 (0)],.int .i64 1]) (by simp [results,Tryz.results184,go_sem,hc2,lenOf]) rfl ⟨rfl,?_⟩
 exact (((((stp (stA (stA (stp (stA (st0 _) _) hb1) _) _).drew hb2).setCell (Nat.le_refl _) _).setCell (Nat.le_refl _) _).setCell (Nat.le_refl _) _).setCell (Nat.le_refl _) _).setCell (Nat.le_refl _) _
theorem read_1 (k:Nat) (hk:k < 32) (h30:k ≠ 30) (hm:O.mask k=1) (a b:Int) (ha:0<=a) (ha':a<=65535) (hb:0<=b) (hb':b<=65535) (hak:a / 2048=k) (w:World) (hs:shapesAt w) :
 Calls Tryz.prog 184 #[.int .u16 a,.int .u16 b] w fun e w'=>e = .returned (.tuple #[.agg #[.int .i64 k,.int .i64 (a / 256 % 8),.int .i64 (0),.int .i64 (0),.int .i64 (0)],.int .i64 1])/\Below w.heap.size w w':=by
 have hwd:=words_any (.string (O.nameS k)) (.int .i64 (K.cyc k)) k hk
 have HS:=hid hs
 have HM:=hid hm
 have HW:=hid hwd
 rw [hm] at HW
 have eD:=(and_mod (a / 256) (by omega) (by omega)).1
 clear hs hm hwd
 go_enter Tryz.func184,Tryz.ntmps184
 go_wp2_with (first
  | (go_at_call 155;refine (shape_yes k hk h30 _ (shapes_alloc HS.out _)).mono ?_;rw [HM.out];rintro e w1 ⟨rfl,hb1⟩;obtain ⟨hc1,hf1⟩:=bcell hb1;have hz1:w.heap.size < w1.heap.size:=by have:=hb1.size;simp at this;omega))
 clear eD
 go_region_held3 (fun w'=>w'.cell? ⟨w1.heap.size,0,none⟩=some (.string (O.nameS k))/\w'.cell? ⟨w1.heap.size,1,none⟩=some (.int .i64 (K.cyc k))/\w'.cell? ⟨w1.heap.size,2,none⟩=some (.int .i64 1)/\w'.cell? ⟨w1.heap.size+1,0,none⟩=some (.int .i64 (k))/\w'.cell? ⟨w1.heap.size+1,1,none⟩=some (.int .i64 (a / 256 % 8))/\w'.cell? ⟨w1.heap.size+1,2,none⟩=some (.int .i64 (0))/\w'.cell? ⟨w1.heap.size+1,3,none⟩=some (.int .i64 (0))/\w'.cell? ⟨w1.heap.size+1,4,none⟩=some (.int .i64 (0)))
  (first
    | with_reducible exact held8 hb2
    | with_reducible exact held8s hz1 (by assumption)
    | (go_keep;done))
  ((go_at_call 206;refine (HW.out _).mono ?_;rintro e w2 ⟨rfl,hb2⟩;obtain ⟨hc2,hf2⟩:=newRes hb1 hb2))
 go_wp2
 refine bodyPost_ret (v:=.tuple #[.agg #[.int .i64 k,.int .i64 (a / 256 % 8),.int .i64 (0),.int .i64 (0),.int .i64 (0)],.int .i64 1]) (by simp [results,Tryz.results184,go_sem,hc2,lenOf]) rfl ⟨rfl,?_⟩
 exact (((((stp (stA (stA (stp (stA (st0 _) _) hb1) _) _).drew hb2).setCell (Nat.le_refl _) _).setCell (Nat.le_refl _) _).setCell (Nat.le_refl _) _).setCell (Nat.le_refl _) _).setCell (Nat.le_refl _) _
theorem read_2 (k:Nat) (hk:k < 32) (h30:k ≠ 30) (hm:O.mask k=2) (a b:Int) (ha:0<=a) (ha':a<=65535) (hb:0<=b) (hb':b<=65535) (hak:a / 2048=k) (w:World) (hs:shapesAt w) :
 Calls Tryz.prog 184 #[.int .u16 a,.int .u16 b] w fun e w'=>e = .returned (.tuple #[.agg #[.int .i64 k,.int .i64 (0),.int .i64 (a / 32 % 8),.int .i64 (0),.int .i64 (0)],.int .i64 1])/\Below w.heap.size w w':=by
 have hwd:=words_any (.string (O.nameS k)) (.int .i64 (K.cyc k)) k hk
 have HS:=hid hs
 have HM:=hid hm
 have HW:=hid hwd
 rw [hm] at HW
 have eS:=(and_mod (a / 32) (by omega) (by omega)).1
 clear hs hm hwd
 go_enter Tryz.func184,Tryz.ntmps184
 go_wp2_with (first
  | (go_at_call 155;refine (shape_yes k hk h30 _ (shapes_alloc HS.out _)).mono ?_;rw [HM.out];rintro e w1 ⟨rfl,hb1⟩;obtain ⟨hc1,hf1⟩:=bcell hb1;have hz1:w.heap.size < w1.heap.size:=by have:=hb1.size;simp at this;omega))
 clear eS
 go_region_held3 (fun w'=>w'.cell? ⟨w1.heap.size,0,none⟩=some (.string (O.nameS k))/\w'.cell? ⟨w1.heap.size,1,none⟩=some (.int .i64 (K.cyc k))/\w'.cell? ⟨w1.heap.size,2,none⟩=some (.int .i64 2)/\w'.cell? ⟨w1.heap.size+1,0,none⟩=some (.int .i64 (k))/\w'.cell? ⟨w1.heap.size+1,1,none⟩=some (.int .i64 (0))/\w'.cell? ⟨w1.heap.size+1,2,none⟩=some (.int .i64 (a / 32 % 8))/\w'.cell? ⟨w1.heap.size+1,3,none⟩=some (.int .i64 (0))/\w'.cell? ⟨w1.heap.size+1,4,none⟩=some (.int .i64 (0)))
  (first
    | with_reducible exact held8 hb2
    | with_reducible exact held8s hz1 (by assumption)
    | (go_keep;done))
  ((go_at_call 206;refine (HW.out _).mono ?_;rintro e w2 ⟨rfl,hb2⟩;obtain ⟨hc2,hf2⟩:=newRes hb1 hb2))
 go_wp2
 refine bodyPost_ret (v:=.tuple #[.agg #[.int .i64 k,.int .i64 (0),.int .i64 (a / 32 % 8),.int .i64 (0),.int .i64 (0)],.int .i64 1]) (by simp [results,Tryz.results184,go_sem,hc2,lenOf]) rfl ⟨rfl,?_⟩
 exact (((((stp (stA (stA (stp (stA (st0 _) _) hb1) _) _).drew hb2).setCell (Nat.le_refl _) _).setCell (Nat.le_refl _) _).setCell (Nat.le_refl _) _).setCell (Nat.le_refl _) _).setCell (Nat.le_refl _) _
theorem read_3 (k:Nat) (hk:k < 32) (h30:k ≠ 30) (hm:O.mask k=3) (a b:Int) (ha:0<=a) (ha':a<=65535) (hb:0<=b) (hb':b<=65535) (hak:a / 2048=k) (w:World) (hs:shapesAt w) :
 Calls Tryz.prog 184 #[.int .u16 a,.int .u16 b] w fun e w'=>e = .returned (.tuple #[.agg #[.int .i64 k,.int .i64 (a / 256 % 8),.int .i64 (a / 32 % 8),.int .i64 (0),.int .i64 (0)],.int .i64 1])/\Below w.heap.size w w':=by
 have hwd:=words_any (.string (O.nameS k)) (.int .i64 (K.cyc k)) k hk
 have HS:=hid hs
 have HM:=hid hm
 have HW:=hid hwd
 rw [hm] at HW
 have eD:=(and_mod (a / 256) (by omega) (by omega)).1
 have eS:=(and_mod (a / 32) (by omega) (by omega)).1
 clear hs hm hwd
 go_enter Tryz.func184,Tryz.ntmps184
 go_wp2_with (first
  | (go_at_call 155;refine (shape_yes k hk h30 _ (shapes_alloc HS.out _)).mono ?_;rw [HM.out];rintro e w1 ⟨rfl,hb1⟩;obtain ⟨hc1,hf1⟩:=bcell hb1;have hz1:w.heap.size < w1.heap.size:=by have:=hb1.size;simp at this;omega))
 clear eD eS
 go_region_held3 (fun w'=>w'.cell? ⟨w1.heap.size,0,none⟩=some (.string (O.nameS k))/\w'.cell? ⟨w1.heap.size,1,none⟩=some (.int .i64 (K.cyc k))/\w'.cell? ⟨w1.heap.size,2,none⟩=some (.int .i64 3)/\w'.cell? ⟨w1.heap.size+1,0,none⟩=some (.int .i64 (k))/\w'.cell? ⟨w1.heap.size+1,1,none⟩=some (.int .i64 (a / 256 % 8))/\w'.cell? ⟨w1.heap.size+1,2,none⟩=some (.int .i64 (a / 32 % 8))/\w'.cell? ⟨w1.heap.size+1,3,none⟩=some (.int .i64 (0))/\w'.cell? ⟨w1.heap.size+1,4,none⟩=some (.int .i64 (0)))
  (first
    | with_reducible exact held8 hb2
    | with_reducible exact held8s hz1 (by assumption)
    | (go_keep;done))
  ((go_at_call 206;refine (HW.out _).mono ?_;rintro e w2 ⟨rfl,hb2⟩;obtain ⟨hc2,hf2⟩:=newRes hb1 hb2))
 go_wp2
 refine bodyPost_ret (v:=.tuple #[.agg #[.int .i64 k,.int .i64 (a / 256 % 8),.int .i64 (a / 32 % 8),.int .i64 (0),.int .i64 (0)],.int .i64 1]) (by simp [results,Tryz.results184,go_sem,hc2,lenOf]) rfl ⟨rfl,?_⟩
 exact (((((stp (stA (stA (stp (stA (st0 _) _) hb1) _) _).drew hb2).setCell (Nat.le_refl _) _).setCell (Nat.le_refl _) _).setCell (Nat.le_refl _) _).setCell (Nat.le_refl _) _).setCell (Nat.le_refl _) _
theorem read_5 (k:Nat) (hk:k < 32) (h30:k ≠ 30) (hm:O.mask k=5) (a b:Int) (ha:0<=a) (ha':a<=65535) (hb:0<=b) (hb':b<=65535) (hak:a / 2048=k) (w:World) (hs:shapesAt w) :
 Calls Tryz.prog 184 #[.int .u16 a,.int .u16 b] w fun e w'=>e = .returned (.tuple #[.agg #[.int .i64 k,.int .i64 (a / 256 % 8),.int .i64 (0),.int .i64 (M.low a 5),.int .i64 (0)],.int .i64 1])/\Below w.heap.size w w':=by
 have hwd:=words_any (.string (O.nameS k)) (.int .i64 (K.cyc k)) k hk
 have HS:=hid hs
 have HM:=hid hm
 have HW:=hid hwd
 rw [hm] at HW
 have eD:=(and_mod (a / 256) (by omega) (by omega)).1
 clear hs hm hwd
 go_enter Tryz.func184,Tryz.ntmps184
 go_wp2_with (first
  | (go_at_call 155;refine (shape_yes k hk h30 _ (shapes_alloc HS.out _)).mono ?_;rw [HM.out];rintro e w1 ⟨rfl,hb1⟩;obtain ⟨hc1,hf1⟩:=bcell hb1;have hz1:w.heap.size < w1.heap.size:=by have:=hb1.size;simp at this;omega)
  | (go_at_call 249;refine (signed_yes _ _ _ (by omega) (by omega) (by omega) (by omega)).mono ?_;rintro e w' ⟨rfl,rfl⟩))
 clear eD
 go_region_held3 (fun w'=>w'.cell? ⟨w1.heap.size,0,none⟩=some (.string (O.nameS k))/\w'.cell? ⟨w1.heap.size,1,none⟩=some (.int .i64 (K.cyc k))/\w'.cell? ⟨w1.heap.size,2,none⟩=some (.int .i64 5)/\w'.cell? ⟨w1.heap.size+1,0,none⟩=some (.int .i64 (k))/\w'.cell? ⟨w1.heap.size+1,1,none⟩=some (.int .i64 (a / 256 % 8))/\w'.cell? ⟨w1.heap.size+1,2,none⟩=some (.int .i64 (0))/\w'.cell? ⟨w1.heap.size+1,3,none⟩=some (.int .i64 (M.low a 5))/\w'.cell? ⟨w1.heap.size+1,4,none⟩=some (.int .i64 (0)))
  (first
    | with_reducible exact held8 hb2
    | with_reducible exact held8s hz1 (by assumption)
    | (go_keep;done))
  ((go_at_call 206;refine (HW.out _).mono ?_;rintro e w2 ⟨rfl,hb2⟩;obtain ⟨hc2,hf2⟩:=newRes hb1 hb2))
 go_wp2
 refine bodyPost_ret (v:=.tuple #[.agg #[.int .i64 k,.int .i64 (a / 256 % 8),.int .i64 (0),.int .i64 (M.low a 5),.int .i64 (0)],.int .i64 1]) (by simp [results,Tryz.results184,go_sem,hc2,lenOf]) rfl ⟨rfl,?_⟩
 exact (((((stp (stA (stA (stp (stA (st0 _) _) hb1) _) _).drew hb2).setCell (Nat.le_refl _) _).setCell (Nat.le_refl _) _).setCell (Nat.le_refl _) _).setCell (Nat.le_refl _) _).setCell (Nat.le_refl _) _
theorem read_7 (k:Nat) (hk:k < 32) (h30:k ≠ 30) (hm:O.mask k=7) (a b:Int) (ha:0<=a) (ha':a<=65535) (hb:0<=b) (hb':b<=65535) (hak:a / 2048=k) (w:World) (hs:shapesAt w) :
 Calls Tryz.prog 184 #[.int .u16 a,.int .u16 b] w fun e w'=>e = .returned (.tuple #[.agg #[.int .i64 k,.int .i64 (a / 256 % 8),.int .i64 (a / 32 % 8),.int .i64 (M.low a 5),.int .i64 (0)],.int .i64 1])/\Below w.heap.size w w':=by
 have hwd:=words_any (.string (O.nameS k)) (.int .i64 (K.cyc k)) k hk
 have HS:=hid hs
 have HM:=hid hm
 have HW:=hid hwd
 rw [hm] at HW
 have eD:=(and_mod (a / 256) (by omega) (by omega)).1
 have eS:=(and_mod (a / 32) (by omega) (by omega)).1
 clear hs hm hwd
 go_enter Tryz.func184,Tryz.ntmps184
 go_wp2_with (first
  | (go_at_call 155;refine (shape_yes k hk h30 _ (shapes_alloc HS.out _)).mono ?_;rw [HM.out];rintro e w1 ⟨rfl,hb1⟩;obtain ⟨hc1,hf1⟩:=bcell hb1;have hz1:w.heap.size < w1.heap.size:=by have:=hb1.size;simp at this;omega)
  | (go_at_call 249;refine (signed_yes _ _ _ (by omega) (by omega) (by omega) (by omega)).mono ?_;rintro e w' ⟨rfl,rfl⟩))
 clear eD eS
 go_region_held3 (fun w'=>w'.cell? ⟨w1.heap.size,0,none⟩=some (.string (O.nameS k))/\w'.cell? ⟨w1.heap.size,1,none⟩=some (.int .i64 (K.cyc k))/\w'.cell? ⟨w1.heap.size,2,none⟩=some (.int .i64 7)/\w'.cell? ⟨w1.heap.size+1,0,none⟩=some (.int .i64 (k))/\w'.cell? ⟨w1.heap.size+1,1,none⟩=some (.int .i64 (a / 256 % 8))/\w'.cell? ⟨w1.heap.size+1,2,none⟩=some (.int .i64 (a / 32 % 8))/\w'.cell? ⟨w1.heap.size+1,3,none⟩=some (.int .i64 (M.low a 5))/\w'.cell? ⟨w1.heap.size+1,4,none⟩=some (.int .i64 (0)))
  (first
    | with_reducible exact held8 hb2
    | with_reducible exact held8s hz1 (by assumption)
    | (go_keep;done))
  ((go_at_call 206;refine (HW.out _).mono ?_;rintro e w2 ⟨rfl,hb2⟩;obtain ⟨hc2,hf2⟩:=newRes hb1 hb2))
 go_wp2
 refine bodyPost_ret (v:=.tuple #[.agg #[.int .i64 k,.int .i64 (a / 256 % 8),.int .i64 (a / 32 % 8),.int .i64 (M.low a 5),.int .i64 (0)],.int .i64 1]) (by simp [results,Tryz.results184,go_sem,hc2,lenOf]) rfl ⟨rfl,?_⟩
 exact (((((stp (stA (stA (stp (stA (st0 _) _) hb1) _) _).drew hb2).setCell (Nat.le_refl _) _).setCell (Nat.le_refl _) _).setCell (Nat.le_refl _) _).setCell (Nat.le_refl _) _).setCell (Nat.le_refl _) _
theorem read_8 (k:Nat) (hk:k < 32) (h30:k ≠ 30) (hm:O.mask k=8) (a b:Int) (ha:0<=a) (ha':a<=65535) (hb:0<=b) (hb':b<=65535) (hak:a / 2048=k) (w:World) (hs:shapesAt w) :
 Calls Tryz.prog 184 #[.int .u16 a,.int .u16 b] w fun e w'=>e = .returned (.tuple #[.agg #[.int .i64 k,.int .i64 (0),.int .i64 (0),.int .i64 (0),.int .i64 (b)],.int .i64 2])/\Below w.heap.size w w':=by
 have hwd:=words_any (.string (O.nameS k)) (.int .i64 (K.cyc k)) k hk
 have HS:=hid hs
 have HM:=hid hm
 have HW:=hid hwd
 rw [hm] at HW
 clear hs hm hwd
 go_enter Tryz.func184,Tryz.ntmps184
 go_wp2_with (first
  | (go_at_call 155;refine (shape_yes k hk h30 _ (shapes_alloc HS.out _)).mono ?_;rw [HM.out];rintro e w1 ⟨rfl,hb1⟩;obtain ⟨hc1,hf1⟩:=bcell hb1;have hz1:w.heap.size < w1.heap.size:=by have:=hb1.size;simp at this;omega))
 go_region_held3 (fun w'=>w'.cell? ⟨w1.heap.size,0,none⟩=some (.string (O.nameS k))/\w'.cell? ⟨w1.heap.size,1,none⟩=some (.int .i64 (K.cyc k))/\w'.cell? ⟨w1.heap.size,2,none⟩=some (.int .i64 8)/\w'.cell? ⟨w1.heap.size+1,0,none⟩=some (.int .i64 (k))/\w'.cell? ⟨w1.heap.size+1,1,none⟩=some (.int .i64 (0))/\w'.cell? ⟨w1.heap.size+1,2,none⟩=some (.int .i64 (0))/\w'.cell? ⟨w1.heap.size+1,3,none⟩=some (.int .i64 (0))/\w'.cell? ⟨w1.heap.size+1,4,none⟩=some (.int .i64 (b)))
  (first
    | with_reducible exact held8 hb2
    | with_reducible exact held8s hz1 (by assumption)
    | (go_keep;done))
  ((go_at_call 206;refine (HW.out _).mono ?_;rintro e w2 ⟨rfl,hb2⟩;obtain ⟨hc2,hf2⟩:=newRes hb1 hb2))
 go_wp2
 refine bodyPost_ret (v:=.tuple #[.agg #[.int .i64 k,.int .i64 (0),.int .i64 (0),.int .i64 (0),.int .i64 (b)],.int .i64 2]) (by simp [results,Tryz.results184,go_sem,hc2,lenOf]) rfl ⟨rfl,?_⟩
 exact (((((stp (stA (stA (stp (stA (st0 _) _) hb1) _) _).drew hb2).setCell (Nat.le_refl _) _).setCell (Nat.le_refl _) _).setCell (Nat.le_refl _) _).setCell (Nat.le_refl _) _).setCell (Nat.le_refl _) _
theorem read_9 (k:Nat) (hk:k < 32) (h30:k ≠ 30) (hm:O.mask k=9) (a b:Int) (ha:0<=a) (ha':a<=65535) (hb:0<=b) (hb':b<=65535) (hak:a / 2048=k) (w:World) (hs:shapesAt w) :
 Calls Tryz.prog 184 #[.int .u16 a,.int .u16 b] w fun e w'=>e = .returned (.tuple #[.agg #[.int .i64 k,.int .i64 (a / 256 % 8),.int .i64 (0),.int .i64 (0),.int .i64 (b)],.int .i64 2])/\Below w.heap.size w w':=by
 have hwd:=words_any (.string (O.nameS k)) (.int .i64 (K.cyc k)) k hk
 have HS:=hid hs
 have HM:=hid hm
 have HW:=hid hwd
 rw [hm] at HW
 have eD:=(and_mod (a / 256) (by omega) (by omega)).1
 clear hs hm hwd
 go_enter Tryz.func184,Tryz.ntmps184
 go_wp2_with (first
  | (go_at_call 155;refine (shape_yes k hk h30 _ (shapes_alloc HS.out _)).mono ?_;rw [HM.out];rintro e w1 ⟨rfl,hb1⟩;obtain ⟨hc1,hf1⟩:=bcell hb1;have hz1:w.heap.size < w1.heap.size:=by have:=hb1.size;simp at this;omega))
 clear eD
 go_region_held3 (fun w'=>w'.cell? ⟨w1.heap.size,0,none⟩=some (.string (O.nameS k))/\w'.cell? ⟨w1.heap.size,1,none⟩=some (.int .i64 (K.cyc k))/\w'.cell? ⟨w1.heap.size,2,none⟩=some (.int .i64 9)/\w'.cell? ⟨w1.heap.size+1,0,none⟩=some (.int .i64 (k))/\w'.cell? ⟨w1.heap.size+1,1,none⟩=some (.int .i64 (a / 256 % 8))/\w'.cell? ⟨w1.heap.size+1,2,none⟩=some (.int .i64 (0))/\w'.cell? ⟨w1.heap.size+1,3,none⟩=some (.int .i64 (0))/\w'.cell? ⟨w1.heap.size+1,4,none⟩=some (.int .i64 (b)))
  (first
    | with_reducible exact held8 hb2
    | with_reducible exact held8s hz1 (by assumption)
    | (go_keep;done))
  ((go_at_call 206;refine (HW.out _).mono ?_;rintro e w2 ⟨rfl,hb2⟩;obtain ⟨hc2,hf2⟩:=newRes hb1 hb2))
 go_wp2
 refine bodyPost_ret (v:=.tuple #[.agg #[.int .i64 k,.int .i64 (a / 256 % 8),.int .i64 (0),.int .i64 (0),.int .i64 (b)],.int .i64 2]) (by simp [results,Tryz.results184,go_sem,hc2,lenOf]) rfl ⟨rfl,?_⟩
 exact (((((stp (stA (stA (stp (stA (st0 _) _) hb1) _) _).drew hb2).setCell (Nat.le_refl _) _).setCell (Nat.le_refl _) _).setCell (Nat.le_refl _) _).setCell (Nat.le_refl _) _).setCell (Nat.le_refl _) _
theorem read_17 (k:Nat) (hk:k < 32) (h30:k ≠ 30) (hm:O.mask k=17) (a b:Int) (ha:0<=a) (ha':a<=65535) (hb:0<=b) (hb':b<=65535) (hak:a / 2048=k) (w:World) (hs:shapesAt w) :
 Calls Tryz.prog 184 #[.int .u16 a,.int .u16 b] w fun e w'=>e = .returned (.tuple #[.agg #[.int .i64 k,.int .i64 (a / 256 % 8),.int .i64 (0),.int .i64 (a % 16),.int .i64 (0)],.int .i64 1])/\Below w.heap.size w w':=by
 have hwd:=words_any (.string (O.nameS k)) (.int .i64 (K.cyc k)) k hk
 have HS:=hid hs
 have HM:=hid hm
 have HW:=hid hwd
 rw [hm] at HW
 have eD:=(and_mod (a / 256) (by omega) (by omega)).1
 have eN:=(and_mod a ha ha').2
 clear hs hm hwd
 go_enter Tryz.func184,Tryz.ntmps184
 go_wp2_with (first
  | (go_at_call 155;refine (shape_yes k hk h30 _ (shapes_alloc HS.out _)).mono ?_;rw [HM.out];rintro e w1 ⟨rfl,hb1⟩;obtain ⟨hc1,hf1⟩:=bcell hb1;have hz1:w.heap.size < w1.heap.size:=by have:=hb1.size;simp at this;omega))
 clear eD eN
 go_region_held3 (fun w'=>w'.cell? ⟨w1.heap.size,0,none⟩=some (.string (O.nameS k))/\w'.cell? ⟨w1.heap.size,1,none⟩=some (.int .i64 (K.cyc k))/\w'.cell? ⟨w1.heap.size,2,none⟩=some (.int .i64 17)/\w'.cell? ⟨w1.heap.size+1,0,none⟩=some (.int .i64 (k))/\w'.cell? ⟨w1.heap.size+1,1,none⟩=some (.int .i64 (a / 256 % 8))/\w'.cell? ⟨w1.heap.size+1,2,none⟩=some (.int .i64 (0))/\w'.cell? ⟨w1.heap.size+1,3,none⟩=some (.int .i64 (a % 16))/\w'.cell? ⟨w1.heap.size+1,4,none⟩=some (.int .i64 (0)))
  (first
    | with_reducible exact held8 hb2
    | with_reducible exact held8s hz1 (by assumption)
    | (go_keep;done))
  ((go_at_call 206;refine (HW.out _).mono ?_;rintro e w2 ⟨rfl,hb2⟩;obtain ⟨hc2,hf2⟩:=newRes hb1 hb2))
 go_wp2
 refine bodyPost_ret (v:=.tuple #[.agg #[.int .i64 k,.int .i64 (a / 256 % 8),.int .i64 (0),.int .i64 (a % 16),.int .i64 (0)],.int .i64 1]) (by simp [results,Tryz.results184,go_sem,hc2,lenOf]) rfl ⟨rfl,?_⟩
 exact (((((stp (stA (stA (stp (stA (st0 _) _) hb1) _) _).drew hb2).setCell (Nat.le_refl _) _).setCell (Nat.le_refl _) _).setCell (Nat.le_refl _) _).setCell (Nat.le_refl _) _).setCell (Nat.le_refl _) _
theorem lt_box {w w1:World} {o:Obj} (hb:Below (w.alloc o).heap.size (w.alloc o) w1):w.heap.size < w1.heap.size:=by have:=hb.size;simp at this;omega
theorem trapAt {w:World} (h:shapesAt w):w.cell? ⟨1,93,none⟩=some (.string (O.nameS 31))/\w.cell? ⟨1,94,none⟩=some (.int .i64 (K.cyc 31))/\w.cell? ⟨1,95,none⟩=some (.int .i64 0):=by
 obtain ⟨a,b,c⟩:=h 31 (by omega)
 exact ⟨a,b,c⟩
theorem read_trap (a b:Int) (ha:0<=a) (ha':a<=65535) (hb:0<=b) (hb':b<=65535) (hak:a / 2048=30) (w:World) (hs:shapesAt w) :
 Calls Tryz.prog 184 #[.int .u16 a,.int .u16 b] w fun e w'=>e = .returned (.tuple #[.agg #[.int .i64 31,.int .i64 0,.int .i64 0,.int .i64 0,.int .i64 0],.int .i64 1])/\Below w.heap.size w w':=by
 have HW:Hid (∀ w:World,Calls Tryz.prog 206 #[.agg #[.string (O.nameS 31),.int .i64 (K.cyc 31),.int .i64 0]] w fun e w'=>e = .returned (.int .i64 1)/\Below w.heap.size w w'):=fun w=>words_any (.string (O.nameS 31)) (.int .i64 (K.cyc 31)) 31 (by omega) w
 have HS:=hid hs
 have hg:1 < w.heap.size:=hs.lt
 clear hs
 go_enter Tryz.func184,Tryz.ntmps184
 go_wp2_with (first
  | (go_at_call 155;refine (shape_no 30 (by decide) _ (shapes_alloc HS.out _)).mono ?_;rintro e w1 ⟨rfl,hb1⟩;obtain ⟨c0,c1,c2⟩:=trapAt ((shapes_alloc HS.out _).kept hb1);have hz1:=lt_box hb1;have hg1:1 < w1.heap.size:=Nat.lt_trans hg hz1;have hg0:0 < w1.heap.size:=Nat.lt_of_le_of_lt (Nat.zero_le _) hg1))
 go_region_held3 (fun w'=>w'.cell? ⟨w1.heap.size,0,none⟩=some (.string (O.nameS 31))/\w'.cell? ⟨w1.heap.size,1,none⟩=some (.int .i64 (K.cyc 31))/\w'.cell? ⟨w1.heap.size,2,none⟩=some (.int .i64 0)/\w'.cell? ⟨w1.heap.size+1,0,none⟩=some (.int .i64 31)/\w'.cell? ⟨w1.heap.size+1,1,none⟩=some (.int .i64 0)/\w'.cell? ⟨w1.heap.size+1,2,none⟩=some (.int .i64 0)/\w'.cell? ⟨w1.heap.size+1,3,none⟩=some (.int .i64 0)/\w'.cell? ⟨w1.heap.size+1,4,none⟩=some (.int .i64 0))
  (first
    | with_reducible exact held8 hb2
    | with_reducible exact held8s hz1 (by assumption)
    | (go_keep;done))
  ((go_at_call 206;refine (HW.out _).mono ?_;rintro e w2 ⟨rfl,hb2⟩;obtain ⟨hc2,hf2⟩:=newRes hb1 hb2))
 go_wp2
 refine bodyPost_ret (v:=.tuple #[.agg #[.int .i64 31,.int .i64 0,.int .i64 0,.int .i64 0,.int .i64 0],.int .i64 1]) (by simp [results,Tryz.results184,go_sem,hc2]) rfl ⟨rfl,?_⟩
 exact (((((stp (stA (stA (stp (stA (st0 _) _) hb1) _) _).drew hb2).setCell (Nat.le_refl _) _).setCell (Nat.le_refl _) _).setCell (Nat.le_refl _) _).setCell (Nat.le_refl _) _).setCell (Nat.le_refl _) _
def orderV (a b:Int):Value:=.agg #[.int .i64 (O.rOp a),.int .i64 (O.rD a),.int .i64 (O.rS a),.int .i64 (O.rN a),.int .i64 (O.rW a b)]
theorem parts_of (k:Nat) (hk:k < 32) (a b:Int) (hr:O.rOp a=k) :
 O.rD a=(if O.mask k % 2=1 then a / 256 % 8 else 0)/\O.rS a=(if O.mask k / 2 % 2=1 then a / 32 % 8 else 0)/\O.rN a=(if O.mask k / 16 % 2=1 then a % 16 else if O.mask k / 4 % 2=1 then M.low a 5 else 0) /\
  O.rW a b=(if O.mask k / 8 % 2=1 then b else 0)/\O.rLen a=lenOf (O.mask k):=by
 have hkk:O.rk a=k:=by unfold O.rk;rw [hr];rfl
 have h:∀ k,k < 32->O.hasC k 100=decide (O.mask k % 2=1)/\O.hasC k 115=decide (O.mask k / 2 % 2=1)/\O.hasC k 119=decide (O.mask k / 8 % 2=1) /\
  (O.hasC k 110=(decide (O.mask k / 16 % 2=1) || decide (O.mask k / 4 % 2=1)))/\(decide (O.mask k / 16 % 2=1)=decide (k=12 \/ k=13)):=by decide +kernel
 obtain ⟨h1,h2,h3,h4,h5⟩:=h k hk
 unfold O.rD O.rS O.rN O.rW O.rLen lenOf
 rw [hkk,h1,h2,h3,h4]
 refine ⟨by simp only [decide_eq_true_eq],by simp only [decide_eq_true_eq],?_,by simp only [decide_eq_true_eq],by simp only [decide_eq_true_eq]⟩
 unfold O.nOf
 have h5':=decide_eq_decide.1 h5
 by_cases c:O.mask k / 16 % 2=1
 ·simp only [c,decide_true,Bool.true_or,if_true,if_pos (h5'.1 c)]
 ·have c':¬ (k=12 \/ k=13):=fun x=>c (h5'.2 x)
  rw [if_neg c',if_neg c,decide_eq_false c,O.low_5]
  simp only [Bool.false_or,decide_eq_true_eq]
theorem read_any (a b:Int) (ha:0<=a/\a<=65535) (hb:0<=b/\b<=65535) (w:World) (hs:shapesAt w) :
 Calls Tryz.prog 184 #[.int .u16 a,.int .u16 b] w fun e w'=>e = .returned (.tuple #[orderV a b,.int .i64 (O.rLen a)])/\Below w.heap.size w w':=by
 by_cases h30:a / 2048=30
 ·have hr:O.rOp a=((31:Nat):Int):=by unfold O.rOp;rw [if_pos h30];rfl
  obtain ⟨p1,p2,p3,p4,p5⟩:=parts_of 31 (by omega) a b hr
  have em:O.mask 31=0:=by decide +kernel
  rw [em] at p1 p2 p3 p4 p5
  unfold orderV
  rw [hr,p1,p2,p3,p4,p5]
  exact read_trap a b ha.1 ha.2 hb.1 hb.2 h30 w hs
 ·obtain ⟨k,hk⟩:=Int.eq_ofNat_of_zero_le (show 0<=a / 2048 by omega)
  have hr:O.rOp a=(k:Int):=by unfold O.rOp;rw [if_neg h30,hk]
  obtain ⟨p1,p2,p3,p4,p5⟩:=parts_of k (by omega) a b hr
  unfold orderV
  rw [hr,p1,p2,p3,p4,p5]
  clear p1 p2 p3 p4 p5
  rcases O.mask_or k (by omega) with h | h | h | h | h | h | h | h | h <;> rw [h]
  ·exact read_0 k (by omega) (by omega) h a b ha.1 ha.2 hb.1 hb.2 hk w hs
  ·exact read_1 k (by omega) (by omega) h a b ha.1 ha.2 hb.1 hb.2 hk w hs
  ·exact read_2 k (by omega) (by omega) h a b ha.1 ha.2 hb.1 hb.2 hk w hs
  ·exact read_3 k (by omega) (by omega) h a b ha.1 ha.2 hb.1 hb.2 hk w hs
  ·exact read_5 k (by omega) (by omega) h a b ha.1 ha.2 hb.1 hb.2 hk w hs
  ·exact read_7 k (by omega) (by omega) h a b ha.1 ha.2 hb.1 hb.2 hk w hs
  ·exact read_8 k (by omega) (by omega) h a b ha.1 ha.2 hb.1 hb.2 hk w hs
  ·exact read_9 k (by omega) (by omega) h a b ha.1 ha.2 hb.1 hb.2 hk w hs
  ·exact read_17 k (by omega) (by omega) h a b ha.1 ha.2 hb.1 hb.2 hk w hs
abbrev actsL (b12 b13 b16 b17 b18 b19 b29:Nat):Array Value :=
 #[fv 207 #[],fv 208 #[],fv 209 #[],fv 210 #[],fv 212 #[],fv 214 #[],fv 215 #[],fv 217 #[],fv 217 #[],fv 217 #[],fv 217 #[],fv 217 #[],
   fv 262 #[.pointer (some ⟨b12,0,none⟩)],fv 262 #[.pointer (some ⟨b13,0,none⟩)],fv 221 #[],fv 223 #[],
   fv 266 #[.pointer (some ⟨b16,0,none⟩)],fv 266 #[.pointer (some ⟨b17,0,none⟩)],fv 266 #[.pointer (some ⟨b18,0,none⟩)],fv 266 #[.pointer (some ⟨b19,0,none⟩)],
   fv 229 #[],fv 230 #[],fv 232 #[],fv 233 #[],fv 234 #[],fv 235 #[],fv 236 #[],fv 238 #[],fv 217 #[],
   fv 266 #[.pointer (some ⟨b29,0,none⟩)],.nilFunc,fv 240 #[]]
theorem shiftF_any (g:Nat) (w:World):Calls Tryz.prog 218 #[fv g #[]] w fun e w'=>e = .returned (fv 262 #[.pointer (some ⟨w.heap.size,0,none⟩)])/\w'=w.alloc (.cells #[fv g #[]] 305):=by
 go_enter Tryz.func218,Tryz.ntmps218
 go_wp2
 go_ret
 exact ⟨rfl,rfl⟩
theorem jumpF_any (g:Nat) (w:World):Calls Tryz.prog 224 #[fv g #[]] w fun e w'=>e = .returned (fv 266 #[.pointer (some ⟨w.heap.size,0,none⟩)])/\w'=w.alloc (.cells #[fv g #[]] 308):=by
 go_enter Tryz.func224,Tryz.ntmps224
 go_wp2
 go_ret
 exact ⟨rfl,rfl⟩
theorem there_new (w:World) (cs:Array Value) (t:TypeId) (n:Nat) (h:cs.size=n):(w.alloc (.cells cs t)).there w.heap.size 0 n:=fun j hj=>by
 refine ⟨?_,Lib.frozen_of_heap (heap_alloc_new w _) _⟩
 rw [cell_new _ _ _ _ rfl,Array.getElem?_eq_getElem (by omega)]
 rfl
theorem below_setCells {n:Nat} {a:World} {b:Nat} (hb:n<=b):∀ (vs:List Value) (o:Nat) (w:World),Below n a w->Below n a (w.setCells b o vs)
 | [],o,w,h=>h
 | v :: vs,o,w,h=>below_setCells hb vs (o+1) _ (h.setCell hb v)
theorem cutL {P:Program} {ops:Array Oper} {rest:List Oper} {Q:Exit->Act->World->Prop} {a:Act} {w:World} (K:World->Prop) (h:K w) (k:∀ w',K w'->wpList P ops Q rest a w'):wpList P ops Q rest a w:=k w h
theorem actsL_one (a b c d e f g:Nat):(actsL a b c d e f g).all (·.oneCell')=true:=by simp [actsL,Value.oneCell']
theorem info_acts:(Tryz.prog.info? 261).map (·.size)=some 32:=by kernel_rfl
theorem under_acts:Tryz.prog.underlying 261=some (.array 32 260):=by kernel_rfl
def boxes (W:World) (b12 b13 b16 b17 b18 b19 b29:Nat):Prop :=
 W.cell? ⟨b12,0,none⟩=some (fv 219 #[])/\W.cell? ⟨b13,0,none⟩=some (fv 220 #[])/\W.cell? ⟨b16,0,none⟩=some (fv 225 #[])/\W.cell? ⟨b17,0,none⟩=some (fv 226 #[])/\W.cell? ⟨b18,0,none⟩=some (fv 227 #[])/\W.cell? ⟨b19,0,none⟩=some (fv 228 #[])/\W.cell? ⟨b29,0,none⟩=some (fv 239 #[])
theorem boxes_at (w:World) (L:List Value) (z:Obj) (t t':TypeId):boxes (((((((((w.alloc z).alloc (.cells #[fv 219 #[]] t)).alloc (.cells #[fv 220 #[]] t)).alloc (.cells #[fv 225 #[]] t')).alloc (.cells #[fv 226 #[]] t')).alloc (.cells #[fv 227 #[]] t')).alloc (.cells #[fv 228 #[]] t')).alloc (.cells #[fv 239 #[]] t')).setCells w.heap.size 0 L)
 (w.heap.size+1) (w.heap.size+1+1) (w.heap.size+1+1+1) (w.heap.size+1+1+1+1) (w.heap.size+1+1+1+1+1) (w.heap.size+1+1+1+1+1+1) (w.heap.size+1+1+1+1+1+1+1):=by
 have out:∀ (X:World) (b':Nat),b' ≠ w.heap.size->(X.setCells w.heap.size 0 L).cell? ⟨b',0,none⟩=X.cell? ⟨b',0,none⟩:=fun X b' h=>World.cell?_setCells_out _ L 0 X _ (fun e=>absurd e h)
 unfold boxes
 refine ⟨?_,?_,?_,?_,?_,?_,?_⟩ <;> rw [out _ _ (by omega)]
 ·rw [World.cell?_alloc_lt _ _ _ (by simp <;> omega),World.cell?_alloc_lt _ _ _ (by simp <;> omega),World.cell?_alloc_lt _ _ _ (by simp <;> omega),World.cell?_alloc_lt _ _ _ (by simp <;> omega),World.cell?_alloc_lt _ _ _ (by simp <;> omega),World.cell?_alloc_lt _ _ _ (by simp <;> omega),cell_new _ _ _ _ (by simp)];rfl
 ·rw [World.cell?_alloc_lt _ _ _ (by simp <;> omega),World.cell?_alloc_lt _ _ _ (by simp <;> omega),World.cell?_alloc_lt _ _ _ (by simp <;> omega),World.cell?_alloc_lt _ _ _ (by simp <;> omega),World.cell?_alloc_lt _ _ _ (by simp <;> omega),cell_new _ _ _ _ (by simp)];rfl
 ·rw [World.cell?_alloc_lt _ _ _ (by simp <;> omega),World.cell?_alloc_lt _ _ _ (by simp <;> omega),World.cell?_alloc_lt _ _ _ (by simp <;> omega),World.cell?_alloc_lt _ _ _ (by simp <;> omega),cell_new _ _ _ _ (by simp)];rfl
 ·rw [World.cell?_alloc_lt _ _ _ (by simp <;> omega),World.cell?_alloc_lt _ _ _ (by simp <;> omega),World.cell?_alloc_lt _ _ _ (by simp <;> omega),cell_new _ _ _ _ (by simp)];rfl
 ·rw [World.cell?_alloc_lt _ _ _ (by simp <;> omega),World.cell?_alloc_lt _ _ _ (by simp <;> omega),cell_new _ _ _ _ (by simp)];rfl
 ·rw [World.cell?_alloc_lt _ _ _ (by simp <;> omega),cell_new _ _ _ _ (by simp)];rfl
 ·rw [cell_new _ _ _ _ (by simp)];rfl
theorem acts_any (w:World):Calls Tryz.prog 176 #[] w fun e w'=>∃ b12 b13 b16 b17 b18 b19 b29,e = .returned (.agg (actsL b12 b13 b16 b17 b18 b19 b29))/\boxes w' b12 b13 b16 b17 b18 b19 b29/\Below w.heap.size w w':=by
 have hload:∀ W:World,W.rangeAt w.heap.size 0 (actsL (w.heap.size+1) (w.heap.size+1+1) (w.heap.size+1+1+1) (w.heap.size+1+1+1+1) (w.heap.size+1+1+1+1+1) (w.heap.size+1+1+1+1+1+1) (w.heap.size+1+1+1+1+1+1+1)).toList->(loadVar 261 ⟨w.heap.size,0,none⟩).run Tryz.prog W = .ok (.agg (actsL (w.heap.size+1) (w.heap.size+1+1) (w.heap.size+1+1+1) (w.heap.size+1+1+1+1) (w.heap.size+1+1+1+1+1) (w.heap.size+1+1+1+1+1+1) (w.heap.size+1+1+1+1+1+1+1))) W:=fun W h =>
  run_loadVar_mid W w.heap.size 0 261 _ (.array 32 260) h under_acts rfl info_acts
 have HL:=hid hload
 clear hload
 go_enter Tryz.func176,Tryz.ntmps176
 go_wp2_with (first
  | (go_at_call 218;refine (shiftF_any _ _).mono ?_;rintro e w' ⟨rfl,rfl⟩)
  | (go_at_call 224;refine (jumpF_any _ _).mono ?_;rintro e w' ⟨rfl,rfl⟩)
  | (refine wpList_store_mid rfl 261 (.tmp 0) (.tmp 8) rfl w.heap.size 0 _ rfl rfl ?_ ?_ ?_ ?_
     ·exact World.there_alloc (World.there_alloc (World.there_alloc (World.there_alloc (World.there_alloc (World.there_alloc (World.there_alloc (there_new w _ _ 32 rfl) _) _) _) _) _) _) _
     ·exact info_acts
     ·exact actsL_one (w.heap.size+1) (w.heap.size+1+1) (w.heap.size+1+1+1) (w.heap.size+1+1+1+1) (w.heap.size+1+1+1+1+1) (w.heap.size+1+1+1+1+1+1) (w.heap.size+1+1+1+1+1+1+1)
     refine cutL (fun W=>W.rangeAt w.heap.size 0 (actsL (w.heap.size+1) (w.heap.size+1+1) (w.heap.size+1+1+1) (w.heap.size+1+1+1+1) (w.heap.size+1+1+1+1+1) (w.heap.size+1+1+1+1+1+1) (w.heap.size+1+1+1+1+1+1+1)).toList/\boxes W (w.heap.size+1) (w.heap.size+1+1) (w.heap.size+1+1+1) (w.heap.size+1+1+1+1) (w.heap.size+1+1+1+1+1) (w.heap.size+1+1+1+1+1+1) (w.heap.size+1+1+1+1+1+1+1)/\Below w.heap.size w W) ⟨?_,?_,?_⟩ ?_
     ·exact World.rangeAt_setCells_same _ _ _ _ (World.there_alloc (World.there_alloc (World.there_alloc (World.there_alloc (World.there_alloc (World.there_alloc (World.there_alloc (there_new w _ _ 32 rfl) _) _) _) _) _) _) _)
     ·exact boxes_at w _ _ _ _
     ·exact below_setCells (Nat.le_refl _) _ _ _ (stA (stA (stA (stA (stA (stA (stA (stA (st0 w) _) _) _) _) _) _) _) _)
     rintro W ⟨hR,hX,hB⟩
     have HRG:=hid hR
     have HX:=hid hX
     have HB:=hid hB
     clear hR hX hB))
 have hl:=HL.out W HRG.out
 exact bodyPost_ret (v:=.agg (actsL (w.heap.size+1) (w.heap.size+1+1) (w.heap.size+1+1+1) (w.heap.size+1+1+1+1) (w.heap.size+1+1+1+1+1) (w.heap.size+1+1+1+1+1+1) (w.heap.size+1+1+1+1+1+1+1))) (by simp only [results,Tryz.results176];simp;exact hl) rfl ⟨_,_,_,_,_,_,_,rfl,HX.out,HB.out⟩
end Go.Proofs.YtbhpfkjfijdmaaaGreatDoor
