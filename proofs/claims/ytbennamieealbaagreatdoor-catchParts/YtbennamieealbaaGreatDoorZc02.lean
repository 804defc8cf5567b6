/-
  Parts of a proof, joined.
-/
import Derived.Test.YtbennamieealbaaGreatDoorZc01
import Derived.Deep.AppendLies
set_option linter.unusedVariables false
set_option maxRecDepth 100000
set_option maxHeartbeats 1600000
namespace Go.Proofs.YtbennamieealbaaGreatDoor
open Go.ChangeShapes Go.WideShapes Go.ChangeAt Go.RowKit
theorem of_0 (g:Nat) (w:World):Calls Tryz.prog 246 #[.int .i64 0,.pointer (some ⟨g,0,none⟩)] w λe w'=>e = .returned (.pointer (some ⟨g,1,none⟩))/\w'=w:=by
 go_enter Tryz.func246,Tryz.ntmps246
 go_wp2
 go_ret
 exact ⟨rfl,rfl⟩
theorem of_1 (g:Nat) (w:World):Calls Tryz.prog 246 #[.int .i64 1,.pointer (some ⟨g,0,none⟩)] w λe w'=>e = .returned (.pointer (some ⟨g,2,none⟩))/\w'=w:=by
 go_enter Tryz.func246,Tryz.ntmps246
 go_wp2
 go_ret
 exact ⟨rfl,rfl⟩
theorem of_2 (g:Nat) (w:World):Calls Tryz.prog 246 #[.int .i64 2,.pointer (some ⟨g,0,none⟩)] w λe w'=>e = .returned (.pointer (some ⟨g,4,none⟩))/\w'=w:=by
 go_enter Tryz.func246,Tryz.ntmps246
 go_wp2
 go_ret
 exact ⟨rfl,rfl⟩
theorem of_3 (g:Nat) (w:World):Calls Tryz.prog 246 #[.int .i64 3,.pointer (some ⟨g,0,none⟩)] w λe w'=>e = .returned (.pointer (some ⟨g,3,none⟩))/\w'=w:=by
 go_enter Tryz.func246,Tryz.ntmps246
 go_wp2
 go_ret
 exact ⟨rfl,rfl⟩
theorem zkz:(Tryz.prog.info? 339).map (λi=>(i.zero,i.size,i.bytes))=some (some (.int .i64 0),1,8):=by kernel_rfl
theorem zfv:∀ k:Nat,k<32->k≠30->O.ck k 1 0 0 0=(if O.hasC k 100 then 0 else 3)/\O.ck k 0 1 0 0=(if O.hasC k 115 then 0 else 3)/\O.ck k 0 0 0 1=(if O.hasC k 119 then 0 else 3)/\O.ck k 0 0 1 0=(if O.hasC k 110 then 0 else 3):=by decide +kernel
def pcs (k j:Nat):List Value:=((List.range j).filter (λp=>O.hasC k (S.sgn p))).map (λp:Nat=>Value.int .i64 p)
theorem ziS {k j:Nat} (h:O.hasC k (S.sgn j)=false):pcs k (j+1)=pcs k j:=by unfold pcs;rw [List.range_succ,List.filter_append];simp [h]
theorem zfw {k j:Nat} (h:O.hasC k (S.sgn j)=true):pcs k (j+1)=pcs k j++[.int .i64 j]:=by unfold pcs;rw [List.range_succ,List.filter_append];simp [h]
theorem zdj (k j:Nat):(pcs k j).length<=j:=by
 unfold pcs
 rw [List.length_map]
 exact Nat.le_trans (List.length_filter_le _ _) (by simp)
theorem ziT (k:Nat) (hk:k<32) (h30:k≠30) (w:World) (hs:shapesAt w):Calls Tryz.prog 304 #[.agg #[.int .i64 k,.int .i64 1,.int .i64 0,.int .i64 0,.int .i64 0]] w λe w'=>e = .returned (.int .i64 (if O.hasC k 100 then 0 else 3))/\Below w.heap.size w w' :=
 (zbZ k 1 0 0 0 w hs).mono λe w' hh=>⟨by rw [hh.1,(zfv k hk h30).1],hh.2⟩
theorem ziU (k:Nat) (hk:k<32) (h30:k≠30) (w:World) (hs:shapesAt w):Calls Tryz.prog 304 #[.agg #[.int .i64 k,.int .i64 0,.int .i64 1,.int .i64 0,.int .i64 0]] w λe w'=>e = .returned (.int .i64 (if O.hasC k 115 then 0 else 3))/\Below w.heap.size w w' :=
 (zbZ k 0 1 0 0 w hs).mono λe w' hh=>⟨by rw [hh.1,(zfv k hk h30).2.1],hh.2⟩
theorem ziV (k:Nat) (hk:k<32) (h30:k≠30) (w:World) (hs:shapesAt w):Calls Tryz.prog 304 #[.agg #[.int .i64 k,.int .i64 0,.int .i64 0,.int .i64 0,.int .i64 1]] w λe w'=>e = .returned (.int .i64 (if O.hasC k 119 then 0 else 3))/\Below w.heap.size w w' :=
 (zbZ k 0 0 0 1 w hs).mono λe w' hh=>⟨by rw [hh.1,(zfv k hk h30).2.2.1],hh.2⟩
theorem ziW (k:Nat) (hk:k<32) (h30:k≠30) (w:World) (hs:shapesAt w):Calls Tryz.prog 304 #[.agg #[.int .i64 k,.int .i64 0,.int .i64 0,.int .i64 1,.int .i64 0]] w λe w'=>e = .returned (.int .i64 (if O.hasC k 110 then 0 else 3))/\Below w.heap.size w w' :=
 (zbZ k 0 0 1 0 w hs).mono λe w' hh=>⟨by rw [hh.1,(zfv k hk h30).2.2.2],hh.2⟩
theorem za8 (v:Value):v.ownBlock=none \/ v.ownBlock≠none:=by cases v.ownBlock with
 | none=>exact Or.inl rfl
 | some g=>exact Or.inr (by simp)
theorem zaB {w w':World} (h:Below w.heap.size w w'):w.grownBy w' none:=⟨h.os,h.tape,h.output,h.size,λk hk _=>h.block k hk⟩
theorem zdD (k:Nat) (hk:k<32) (h30:k≠30) (w:World) (hs:shapesAt w) :
 Calls Tryz.prog 245 #[.int .i64 k] w λe w'=>∃ v,e = .returned v/\w'.ownsRow w.heap.size 339 1 v (pcs k 4).length (pcs k 4)/\Below w.heap.size w w':=by
 obtain ⟨i0,hi0,hz0,hz1,hz2⟩:=info_parts zkz
 have HS:=hid hs
 clear hs
 go_enter Tryz.func245,Tryz.ntmps245
 go_wp2
 go_loopw [3,4] (λl i wr=>∃ j:Nat,j<=4/\i = .int .i64 j/\wr.ownsRow w.heap.size 339 1 l (pcs k j).length (pcs k j)/\Below w.heap.size w wr) (λ_ i _=>4-(intOf i).toNat)
 case atStart=>exact ⟨0,by omega,rfl,⟨rfl,Or.inl ⟨rfl,rfl⟩⟩,Below.refl _ _⟩
 case round =>
  obtain ⟨j,hj,rfl,hown,hbl⟩:=hrel
  have hc:j=0 \/ j=1 \/ j=2 \/ j=3 \/ j=4:=by omega
  have hsw:=hbl.size
  rcases hc with rfl|rfl|rfl|rfl|rfl
  ·cases h0:O.hasC k 100
   ·go_wp2_with (first
     | (go_at_call 246;refine (of_0 _ _).mono ?_;rintro e w' ⟨rfl,rfl⟩)
     | (go_at_call 304;refine (ziT k hk h30 _ (zah (HS.out.kept hbl) _)).mono ?_;rw [h0];rintro e w1 ⟨rfl,hb1⟩))
    go_roundw
    case rel=>exact ⟨1,by omega,by go_num,by rw [ziS (j:=0) h0];exact (hown.alloc _).kept (zaB hb1) (za8 _),stp (stA hbl _) hb1⟩
    case measure=>simp [intOf]
   ·go_wp2_with (first
     | (go_at_call 246;refine (of_0 _ _).mono ?_;rintro e w' ⟨rfl,rfl⟩)
     | (go_at_call 304;refine (ziT k hk h30 _ (zah (HS.out.kept hbl) _)).mono ?_;rw [h0];rintro e w1 ⟨rfl,hb1⟩;have hown1:=(hown.alloc (.cells #[.int .i64 k,.int .i64 1,.int .i64 0,.int .i64 0,.int .i64 0] 225)).kept (zaB hb1) (za8 _);have hB1:=stp (stA hbl (.cells #[.int .i64 k,.int .i64 1,.int .i64 0,.int .i64 0,.int .i64 0] 225)) hb1)
     | (at_builtin;refine wpList_append_lies _ (by rfl) _ _ _ (by rfl) w.heap.size 339 i0 _ 1 8 Tryz.underlying337 hi0 hz0 hz1 hz2 rfl (by omega) _ (pcs k 0).length _ (by rfl) (hown1.alloc _) ⟨w1.heap.size,0,none⟩ 1 1 [.int .i64 0] (by rfl) (by rfl) (World.news_of_block (cs:=#[.int .i64 0]) (t:=339) (fr:=(0,0)) (heap_alloc_new w1 _)) (by simp [Value.oneCell']) (by omega) (by have:=zdj k 0;unfold maxLen;omega) (by have:=zdj k 0;omega) (by have:=hB1.size;simp;omega) (w1.heap.size+1) (by simp) ?_;intro gg cp w3 hown3 hgrow hat hlt3))
    go_roundw
    case rel=>exact ⟨1,by omega,by go_num,by rw [zfw (j:=0) h0,List.length_append];exact hown3,(stA hB1 _).grown hgrow (stA hB1 _).size (λj hj=>(hown.lt j hj).1)⟩
    case measure=>simp [intOf]
  ·cases h0:O.hasC k 115
   ·go_wp2_with (first
     | (go_at_call 246;refine (of_1 _ _).mono ?_;rintro e w' ⟨rfl,rfl⟩)
     | (go_at_call 304;refine (ziU k hk h30 _ (zah (HS.out.kept hbl) _)).mono ?_;rw [h0];rintro e w1 ⟨rfl,hb1⟩))
    go_roundw
    case rel=>exact ⟨2,by omega,by go_num,by rw [ziS (j:=1) h0];exact (hown.alloc _).kept (zaB hb1) (za8 _),stp (stA hbl _) hb1⟩
    case measure=>simp [intOf]
   ·go_wp2_with (first
     | (go_at_call 246;refine (of_1 _ _).mono ?_;rintro e w' ⟨rfl,rfl⟩)
     | (go_at_call 304;refine (ziU k hk h30 _ (zah (HS.out.kept hbl) _)).mono ?_;rw [h0];rintro e w1 ⟨rfl,hb1⟩;have hown1:=(hown.alloc (.cells #[.int .i64 k,.int .i64 0,.int .i64 1,.int .i64 0,.int .i64 0] 225)).kept (zaB hb1) (za8 _);have hB1:=stp (stA hbl (.cells #[.int .i64 k,.int .i64 0,.int .i64 1,.int .i64 0,.int .i64 0] 225)) hb1)
     | (at_builtin;refine wpList_append_lies _ (by rfl) _ _ _ (by rfl) w.heap.size 339 i0 _ 1 8 Tryz.underlying337 hi0 hz0 hz1 hz2 rfl (by omega) _ (pcs k 1).length _ (by rfl) (hown1.alloc _) ⟨w1.heap.size,0,none⟩ 1 1 [.int .i64 1] (by rfl) (by rfl) (World.news_of_block (cs:=#[.int .i64 1]) (t:=339) (fr:=(0,0)) (heap_alloc_new w1 _)) (by simp [Value.oneCell']) (by omega) (by have:=zdj k 1;unfold maxLen;omega) (by have:=zdj k 1;omega) (by have:=hB1.size;simp;omega) (w1.heap.size+1) (by simp) ?_;intro gg cp w3 hown3 hgrow hat hlt3))
    go_roundw
    case rel=>exact ⟨2,by omega,by go_num,by rw [zfw (j:=1) h0,List.length_append];exact hown3,(stA hB1 _).grown hgrow (stA hB1 _).size (λj hj=>(hown.lt j hj).1)⟩
    case measure=>simp [intOf]
  ·cases h0:O.hasC k 119
   ·go_wp2_with (first
     | (go_at_call 246;refine (of_2 _ _).mono ?_;rintro e w' ⟨rfl,rfl⟩)
     | (go_at_call 304;refine (ziV k hk h30 _ (zah (HS.out.kept hbl) _)).mono ?_;rw [h0];rintro e w1 ⟨rfl,hb1⟩))
    go_roundw
    case rel=>exact ⟨3,by omega,by go_num,by rw [ziS (j:=2) h0];exact (hown.alloc _).kept (zaB hb1) (za8 _),stp (stA hbl _) hb1⟩
    case measure=>simp [intOf]
   ·go_wp2_with (first
     | (go_at_call 246;refine (of_2 _ _).mono ?_;rintro e w' ⟨rfl,rfl⟩)
     | (go_at_call 304;refine (ziV k hk h30 _ (zah (HS.out.kept hbl) _)).mono ?_;rw [h0];rintro e w1 ⟨rfl,hb1⟩;have hown1:=(hown.alloc (.cells #[.int .i64 k,.int .i64 0,.int .i64 0,.int .i64 0,.int .i64 1] 225)).kept (zaB hb1) (za8 _);have hB1:=stp (stA hbl (.cells #[.int .i64 k,.int .i64 0,.int .i64 0,.int .i64 0,.int .i64 1] 225)) hb1)
     | (at_builtin;refine wpList_append_lies _ (by rfl) _ _ _ (by rfl) w.heap.size 339 i0 _ 1 8 Tryz.underlying337 hi0 hz0 hz1 hz2 rfl (by omega) _ (pcs k 2).length _ (by rfl) (hown1.alloc _) ⟨w1.heap.size,0,none⟩ 1 1 [.int .i64 2] (by rfl) (by rfl) (World.news_of_block (cs:=#[.int .i64 2]) (t:=339) (fr:=(0,0)) (heap_alloc_new w1 _)) (by simp [Value.oneCell']) (by omega) (by have:=zdj k 2;unfold maxLen;omega) (by have:=zdj k 2;omega) (by have:=hB1.size;simp;omega) (w1.heap.size+1) (by simp) ?_;intro gg cp w3 hown3 hgrow hat hlt3))
    go_roundw
    case rel=>exact ⟨3,by omega,by go_num,by rw [zfw (j:=2) h0,List.length_append];exact hown3,(stA hB1 _).grown hgrow (stA hB1 _).size (λj hj=>(hown.lt j hj).1)⟩
    case measure=>simp [intOf]
  ·cases h0:O.hasC k 110
   ·go_wp2_with (first
     | (go_at_call 246;refine (of_3 _ _).mono ?_;rintro e w' ⟨rfl,rfl⟩)
     | (go_at_call 304;refine (ziW k hk h30 _ (zah (HS.out.kept hbl) _)).mono ?_;rw [h0];rintro e w1 ⟨rfl,hb1⟩))
    go_roundw
    case rel=>exact ⟨4,by omega,by go_num,by rw [ziS (j:=3) h0];exact (hown.alloc _).kept (zaB hb1) (za8 _),stp (stA hbl _) hb1⟩
    case measure=>simp [intOf]
   ·go_wp2_with (first
     | (go_at_call 246;refine (of_3 _ _).mono ?_;rintro e w' ⟨rfl,rfl⟩)
     | (go_at_call 304;refine (ziW k hk h30 _ (zah (HS.out.kept hbl) _)).mono ?_;rw [h0];rintro e w1 ⟨rfl,hb1⟩;have hown1:=(hown.alloc (.cells #[.int .i64 k,.int .i64 0,.int .i64 0,.int .i64 1,.int .i64 0] 225)).kept (zaB hb1) (za8 _);have hB1:=stp (stA hbl (.cells #[.int .i64 k,.int .i64 0,.int .i64 0,.int .i64 1,.int .i64 0] 225)) hb1)
     | (at_builtin;refine wpList_append_lies _ (by rfl) _ _ _ (by rfl) w.heap.size 339 i0 _ 1 8 Tryz.underlying337 hi0 hz0 hz1 hz2 rfl (by omega) _ (pcs k 3).length _ (by rfl) (hown1.alloc _) ⟨w1.heap.size,0,none⟩ 1 1 [.int .i64 3] (by rfl) (by rfl) (World.news_of_block (cs:=#[.int .i64 3]) (t:=339) (fr:=(0,0)) (heap_alloc_new w1 _)) (by simp [Value.oneCell']) (by omega) (by have:=zdj k 3;unfold maxLen;omega) (by have:=zdj k 3;omega) (by have:=hB1.size;simp;omega) (w1.heap.size+1) (by simp) ?_;intro gg cp w3 hown3 hgrow hat hlt3))
    go_roundw
    case rel=>exact ⟨4,by omega,by go_num,by rw [zfw (j:=3) h0,List.length_append];exact hown3,(stA hB1 _).grown hgrow (stA hB1 _).size (λj hj=>(hown.lt j hj).1)⟩
    case measure=>simp [intOf]
  ·go_wp2
   go_ret
   exact ⟨_,rfl,hown,hbl⟩
theorem ziX (op d s n ww:Int) (h1:O.isOp op=true) (h2:O.okB op.toNat d s n ww=true) (w:World) (hs:shapesAt w) :
 Calls Tryz.prog 304 #[.agg #[.int .i64 op,.int .i64 d,.int .i64 s,.int .i64 n,.int .i64 ww]] w λe w'=>e = .returned (.int .i64 0)/\Below w.heap.size w w':=by
 refine (zbZ op d s n ww w hs).mono λe w' hh=>⟨hh.1.trans ?_,hh.2⟩
 unfold O.ck;rw [h1,h2];rfl
def wordsAt (w:World) (g:Nat) (l:List Int):Prop:=∀ i,i<l.length->w.cell? ⟨g,i,none⟩=some (.int .u16 (l.getD i 0))
theorem zeX (k d s n:Int) (h1:0<=k/\k<=31) (h2:0<=d/\d<=7) (h3:0<=s/\s<=7) (h4:-16<=n/\n<=15) :
 bits .or .u16 (bits .or .u16 (bits .or .u16 (k*2048) (d*256)) (s*32)) (bits .and .u16 (IntKind.u16.wrap n) 31)=O.first k d s n:=by
 rw [O.low5 n h4,O.first_of k d s _ h1 h2 h3 (by omega)];rfl
theorem zkA (k:Nat) (d s n ww:Int) (hk:k<32) (h30:k≠30) (hok:O.okB k d s n ww=true) (hw:O.hasC k 119=false) (w:World) (hs:shapesAt w) :
 Calls Tryz.prog 250 #[.agg #[.int .i64 k,.int .i64 d,.int .i64 s,.int .i64 n,.int .i64 ww]] w λe w'=>∃ g,e = .returned (.tuple #[.slice (some ⟨g,0,none⟩) 1 1,.int .i64 0])/\wordsAt w' g [O.first k d s n]/\w.heap.size<=g/\g<w'.heap.size/\Below w.heap.size w w':=by
 obtain ⟨⟨d0,d1⟩,⟨s0,s1⟩,⟨n0,n1⟩,⟨w0,ww1⟩⟩:=O.ok_bd hok
 have h1:=(O.isOp_iff k).2 (by omega)
 have hl:lenOf (O.mask k)=1:=by have:=O.mask_w k hk;rw [hw] at this;unfold lenOf;rw [if_neg (by simpa using this.symm)]
 have HL:=hid hl
 have HO:=hid hok
 have H1:=hid h1
 have HS:=hid hs
 have hlt:=hs.lt
 have hlt0:0<w.heap.size:=Nat.lt_of_le_of_lt (Nat.zero_le _) hlt
 obtain ⟨c0,c1,c2⟩:=hs k hk
 clear hs hok h1 hw hl
 go_enter Tryz.func250,Tryz.ntmps250
 go_wp2_with (first
  | (go_at_call 304;refine (ziX _ _ _ _ _ H1.out HO.out _ (zah HS.out _)).mono ?_;rintro e w1 ⟨rfl,hb1⟩;obtain ⟨hc1,hf1⟩:=bcell hb1;have hz1:w.heap.size<w1.heap.size:=by have:=hb1.size;simp at this;omega)
  | (go_at_call 260;refine (zaO _ _ k hk _).mono ?_;rw [HL.out];rintro e w2 ⟨rfl,hb2⟩))
 go_ret2
 refine ⟨w2.heap.size,rfl,λi hi=>?_,Nat.le_of_lt (Nat.lt_of_lt_of_le hz1 hb2.size),by simp,stA (stp (stp (stA (st0 _) _) hb1) hb2) _⟩
 obtain rfl:i=0:=by simpa using hi
 rw [zeX k d s n (by omega) ⟨d0,d1⟩ ⟨s0,s1⟩ ⟨n0,n1⟩]
 exact zai _ _ _ _ rfl
theorem zkB (k:Nat) (d s n ww:Int) (hk:k<32) (h30:k≠30) (hok:O.okB k d s n ww=true) (hw:O.hasC k 119=true) (w:World) (hs:shapesAt w) :
 Calls Tryz.prog 250 #[.agg #[.int .i64 k,.int .i64 d,.int .i64 s,.int .i64 n,.int .i64 ww]] w λe w'=>∃ g,e = .returned (.tuple #[.slice (some ⟨g,0,none⟩) 2 2,.int .i64 0])/\wordsAt w' g [O.first k d s n,ww]/\w.heap.size<=g/\g<w'.heap.size/\Below w.heap.size w w':=by
 obtain ⟨⟨d0,d1⟩,⟨s0,s1⟩,⟨n0,n1⟩,⟨w0,ww1⟩⟩:=O.ok_bd hok
 have h1:=(O.isOp_iff k).2 (by omega)
 have hl:lenOf (O.mask k)=2:=by have:=O.mask_w k hk;rw [hw] at this;unfold lenOf;rw [if_pos (by simpa using this.symm)]
 have HL:=hid hl
 have HO:=hid hok
 have H1:=hid h1
 have HS:=hid hs
 have hlt:=hs.lt
 have hlt0:0<w.heap.size:=Nat.lt_of_le_of_lt (Nat.zero_le _) hlt
 obtain ⟨c0,c1,c2⟩:=hs k hk
 clear hs hok h1 hw hl
 go_enter Tryz.func250,Tryz.ntmps250
 go_wp2_with (first
  | (go_at_call 304;refine (ziX _ _ _ _ _ H1.out HO.out _ (zah HS.out _)).mono ?_;rintro e w1 ⟨rfl,hb1⟩;obtain ⟨hc1,hf1⟩:=bcell hb1;have hz1:w.heap.size<w1.heap.size:=by have:=hb1.size;simp at this;omega)
  | (go_at_call 260;refine (zaO _ _ k hk _).mono ?_;rw [HL.out];rintro e w2 ⟨rfl,hb2⟩;obtain ⟨hc2,hf2⟩:=bcell hb2))
 go_ret2
 refine ⟨w2.heap.size,rfl,λi hi=>?_,Nat.le_of_lt (Nat.lt_of_lt_of_le hz1 hb2.size),by simp,stA (stp (stp (stA (st0 _) _) hb1) hb2) _⟩
 rw [zeX k d s n (by omega) ⟨d0,d1⟩ ⟨s0,s1⟩ ⟨n0,n1⟩]
 have hi':i=0 \/ i=1:=by simp at hi;omega
 rcases hi' with rfl|rfl <;> exact zai _ _ _ _ rfl
theorem zkC (op d s n ww:Int) (h1:O.isOp op=true) (hok:O.okB op.toNat d s n ww=true) (w:World) (hs:shapesAt w) :
 Calls Tryz.prog 250 #[.agg #[.int .i64 op,.int .i64 d,.int .i64 s,.int .i64 n,.int .i64 ww]] w λe w' =>
  ∃ g,e = .returned (.tuple #[.slice (some ⟨g,0,none⟩) (O.words op d s n ww).length (O.words op d s n ww).length,.int .i64 0])/\wordsAt w' g (O.words op d s n ww)/\w.heap.size<=g/\g<w'.heap.size/\Below w.heap.size w w':=by
 obtain ⟨a1,a2,a3⟩:=(O.isOp_iff op).1 h1
 obtain ⟨k,rfl⟩:=Int.eq_ofNat_of_zero_le a1
 rw [Int.toNat_natCast] at hok
 unfold O.words
 rw [Int.toNat_natCast]
 cases hc:O.hasC k 119
 ·exact zkA k d s n ww (by omega) (by omega) hok hc w hs
 ·exact zkB k d s n ww (by omega) (by omega) hok hc w hs
theorem zri {k l:IntKind} {a a' b b':Int} (h:a=a') (h1:b=b'):Ending.returned (.tuple #[.int k a,.int l b]) = .returned (.tuple #[.int k a',.int l b']):=by rw [h,h1]
theorem zb9 (a n:Int) (w:World) (ha:0<=a) (ha':a<=65535) (hn:1<=n) (hn':n<=16) :
 Calls Tryz.prog 315 #[.int .u16 a,.int .i64 n] w λe w'=>e = .returned (.tuple #[.int .i64 (M.low a n),.int .i64 0])/\w'=w:=by
 go_enter Tryz.func315,Tryz.ntmps315
 go_wp2
 go_ret2
 exact ⟨zri (M.low_of a n hn hn') rfl,rfl⟩
theorem zbJ (x:Int) (h:0<=x) (h':x<=65535):bits .and .u16 x 7=x%8/\bits .and .u16 x 15=x%16 :=
 ⟨by have:=M.and_low x 3 (by omega) h h';simpa using this,by have:=M.and_low x 4 (by omega) h h';simpa using this⟩
theorem held8 {w1 w2:World} {n c h a0 a1 a2 a3 a4:Value} {t t':TypeId} (hb:Below ((w1.alloc (.cells #[n,c,h] t)).alloc (.cells #[a0,a1,a2,a3,a4] t')).drew.heap.size ((w1.alloc (.cells #[n,c,h] t)).alloc (.cells #[a0,a1,a2,a3,a4] t')).drew w2) :
 w2.cell? ⟨w1.heap.size,0,none⟩=some n/\w2.cell? ⟨w1.heap.size,1,none⟩=some c/\w2.cell? ⟨w1.heap.size,2,none⟩=some h/\w2.cell? ⟨w1.heap.size+1,0,none⟩=some a0/\w2.cell? ⟨w1.heap.size+1,1,none⟩=some a1 /\
  w2.cell? ⟨w1.heap.size+1,2,none⟩=some a2/\w2.cell? ⟨w1.heap.size+1,3,none⟩=some a3/\w2.cell? ⟨w1.heap.size+1,4,none⟩=some a4:=by
 have e:∀ i,((w1.alloc (.cells #[n,c,h] t)).alloc (.cells #[a0,a1,a2,a3,a4] t')).drew.cell? ⟨w1.heap.size,i,none⟩=#[n,c,h][i]?:=λi =>
  (World.cell?_alloc_lt (w1.alloc (.cells #[n,c,h] t)) _ _ (by simp)).trans (zai _ _ _ _ rfl)
 have e':∀ i,((w1.alloc (.cells #[n,c,h] t)).alloc (.cells #[a0,a1,a2,a3,a4] t')).drew.cell? ⟨w1.heap.size+1,i,none⟩=#[a0,a1,a2,a3,a4][i]?:=λi=>zai (w1.alloc (.cells #[n,c,h] t)) _ _ _ (by simp)
 refine ⟨?_,?_,?_,?_,?_,?_,?_,?_⟩
 ·rw [hb.cell (by simp;omega),e];rfl
 ·rw [hb.cell (by simp;omega),e];rfl
 ·rw [hb.cell (by simp;omega),e];rfl
 ·rw [hb.cell (by simp),e'];rfl
 ·rw [hb.cell (by simp),e'];rfl
 ·rw [hb.cell (by simp),e'];rfl
 ·rw [hb.cell (by simp),e'];rfl
 ·rw [hb.cell (by simp),e'];rfl
theorem far5 (w2:World) (b:Nat) (v0 v1 v2 v3 v4:Value) (p:Addr) (h:b≠p.block) :
 (((((w2.setCell ⟨b,0,none⟩ v0).setCell ⟨b,1,none⟩ v1).setCell ⟨b,2,none⟩ v2).setCell ⟨b,3,none⟩ v3).setCell ⟨b,4,none⟩ v4).cell? p=w2.cell? p:=by
 rw [World.cell?_setCell_far _ _ _ _ h,World.cell?_setCell_far _ _ _ _ h,World.cell?_setCell_far _ _ _ _ h,World.cell?_setCell_far _ _ _ _ h,World.cell?_setCell_far _ _ _ _ h]
theorem held8s {w w1 w2:World} {n c h a0 a1 a2 a3 a4 v0 v1 v2 v3 v4:Value} (hz:w.heap.size<w1.heap.size)
 (hh:w2.cell? ⟨w1.heap.size,0,none⟩=some n/\w2.cell? ⟨w1.heap.size,1,none⟩=some c/\w2.cell? ⟨w1.heap.size,2,none⟩=some h/\w2.cell? ⟨w1.heap.size+1,0,none⟩=some a0/\w2.cell? ⟨w1.heap.size+1,1,none⟩=some a1 /\
   w2.cell? ⟨w1.heap.size+1,2,none⟩=some a2/\w2.cell? ⟨w1.heap.size+1,3,none⟩=some a3/\w2.cell? ⟨w1.heap.size+1,4,none⟩=some a4) :
 (((((w2.setCell ⟨w.heap.size,0,none⟩ v0).setCell ⟨w.heap.size,1,none⟩ v1).setCell ⟨w.heap.size,2,none⟩ v2).setCell ⟨w.heap.size,3,none⟩ v3).setCell ⟨w.heap.size,4,none⟩ v4).cell? ⟨w1.heap.size,0,none⟩=some n/\(((((w2.setCell ⟨w.heap.size,0,none⟩ v0).setCell ⟨w.heap.size,1,none⟩ v1).setCell ⟨w.heap.size,2,none⟩ v2).setCell ⟨w.heap.size,3,none⟩ v3).setCell ⟨w.heap.size,4,none⟩ v4).cell? ⟨w1.heap.size,1,none⟩=some c/\(((((w2.setCell ⟨w.heap.size,0,none⟩ v0).setCell ⟨w.heap.size,1,none⟩ v1).setCell ⟨w.heap.size,2,none⟩ v2).setCell ⟨w.heap.size,3,none⟩ v3).setCell ⟨w.heap.size,4,none⟩ v4).cell? ⟨w1.heap.size,2,none⟩=some h/\(((((w2.setCell ⟨w.heap.size,0,none⟩ v0).setCell ⟨w.heap.size,1,none⟩ v1).setCell ⟨w.heap.size,2,none⟩ v2).setCell ⟨w.heap.size,3,none⟩ v3).setCell ⟨w.heap.size,4,none⟩ v4).cell? ⟨w1.heap.size+1,0,none⟩=some a0/\(((((w2.setCell ⟨w.heap.size,0,none⟩ v0).setCell ⟨w.heap.size,1,none⟩ v1).setCell ⟨w.heap.size,2,none⟩ v2).setCell ⟨w.heap.size,3,none⟩ v3).setCell ⟨w.heap.size,4,none⟩ v4).cell? ⟨w1.heap.size+1,1,none⟩=some a1 /\
  (((((w2.setCell ⟨w.heap.size,0,none⟩ v0).setCell ⟨w.heap.size,1,none⟩ v1).setCell ⟨w.heap.size,2,none⟩ v2).setCell ⟨w.heap.size,3,none⟩ v3).setCell ⟨w.heap.size,4,none⟩ v4).cell? ⟨w1.heap.size+1,2,none⟩=some a2/\(((((w2.setCell ⟨w.heap.size,0,none⟩ v0).setCell ⟨w.heap.size,1,none⟩ v1).setCell ⟨w.heap.size,2,none⟩ v2).setCell ⟨w.heap.size,3,none⟩ v3).setCell ⟨w.heap.size,4,none⟩ v4).cell? ⟨w1.heap.size+1,3,none⟩=some a3/\(((((w2.setCell ⟨w.heap.size,0,none⟩ v0).setCell ⟨w.heap.size,1,none⟩ v1).setCell ⟨w.heap.size,2,none⟩ v2).setCell ⟨w.heap.size,3,none⟩ v3).setCell ⟨w.heap.size,4,none⟩ v4).cell? ⟨w1.heap.size+1,4,none⟩=some a4:=by
 obtain ⟨h1,h2,h3,h4,h5,h6,h7,h8⟩:=hh
 refine ⟨?_,?_,?_,?_,?_,?_,?_,?_⟩
 ·exact (far5 _ _ _ _ _ _ _ _ (by simp;omega)).trans h1
 ·exact (far5 _ _ _ _ _ _ _ _ (by simp;omega)).trans h2
 ·exact (far5 _ _ _ _ _ _ _ _ (by simp;omega)).trans h3
 ·exact (far5 _ _ _ _ _ _ _ _ (by simp;omega)).trans h4
 ·exact (far5 _ _ _ _ _ _ _ _ (by simp;omega)).trans h5
 ·exact (far5 _ _ _ _ _ _ _ _ (by simp;omega)).trans h6
 ·exact (far5 _ _ _ _ _ _ _ _ (by simp;omega)).trans h7
 ·exact (far5 _ _ _ _ _ _ _ _ (by simp;omega)).trans h8
theorem newRes {w w1 w2:World} {o o':Obj} {t:TypeId} (hb1:Below (w.alloc (.cells #[.int .i64 0,.int .i64 0,.int .i64 0,.int .i64 0,.int .i64 0] t)).heap.size (w.alloc (.cells #[.int .i64 0,.int .i64 0,.int .i64 0,.int .i64 0,.int .i64 0] t)) w1)
 (hb2:Below ((w1.alloc o).alloc o').drew.heap.size ((w1.alloc o).alloc o').drew w2) :
 (∀ i,i<5->w2.cell? ⟨w.heap.size,i,none⟩=some (.int .i64 0)) /\ ∀ i,w2.frozen? ⟨w.heap.size,i,none⟩=false:=by
 have hz:w.heap.size<w1.heap.size:=by have:=hb1.size;simp at this;omega
 have b:Below w1.heap.size w1 w2:=((stA (stA (st0 w1) o) o').drew).trans (hb2.mono (by simp;omega))
 refine ⟨λi hi=>?_,λi=>?_⟩
 ·rw [b.cell hz,hb1.cell (by simp),zai _ _ _ _ rfl]
  have hc:i=0 \/ i=1 \/ i=2 \/ i=3 \/ i=4:=by omega
  rcases hc with rfl|rfl|rfl|rfl|rfl <;> rfl
 ·rw [b.frozen hz,hb1.frozen (by simp)]
  simp
theorem zrj (k:Nat) (hk:k<32) (h30:k≠30) (hm:O.mask k=0) (a b:Int) (ha:0<=a) (ha':a<=65535) (hb:0<=b) (hb':b<=65535) (hak:a/2048=k) (w:World) (hs:shapesAt w) :
 Calls Tryz.prog 259 #[.int .u16 a,.int .u16 b] w λe w'=>e = .returned (.tuple #[.agg #[.int .i64 k,.int .i64 (0),.int .i64 (0),.int .i64 (0),.int .i64 (0)],.int .i64 1])/\Below w.heap.size w w':=by
 have hwd:=zaO (.string (O.nameS k)) (.int .i64 (K.cyc k)) k hk
 have HS:=hid hs
 have HM:=hid hm
 have HW:=hid hwd
 rw [hm] at HW
 clear hs hm hwd
 go_enter Tryz.func259,Tryz.ntmps259
 go_wp2_with (first
  | (go_at_call 209;refine (zaU k hk h30 _ (zah HS.out _)).mono ?_;rw [HM.out];rintro e w1 ⟨rfl,hb1⟩;obtain ⟨hc1,hf1⟩:=bcell hb1;have hz1:w.heap.size<w1.heap.size:=by have:=hb1.size;simp at this;omega))
 go_region_held3 (λw'=>w'.cell? ⟨w1.heap.size,0,none⟩=some (.string (O.nameS k))/\w'.cell? ⟨w1.heap.size,1,none⟩=some (.int .i64 (K.cyc k))/\w'.cell? ⟨w1.heap.size,2,none⟩=some (.int .i64 0)/\w'.cell? ⟨w1.heap.size+1,0,none⟩=some (.int .i64 (k))/\w'.cell? ⟨w1.heap.size+1,1,none⟩=some (.int .i64 (0))/\w'.cell? ⟨w1.heap.size+1,2,none⟩=some (.int .i64 (0))/\w'.cell? ⟨w1.heap.size+1,3,none⟩=some (.int .i64 (0))/\w'.cell? ⟨w1.heap.size+1,4,none⟩=some (.int .i64 (0)))
  (first
    | with_reducible exact held8 hb2
    | with_reducible exact held8s hz1 (by assumption)
    | (go_keep;done))
  ((go_at_call 260;refine (HW.out _).mono ?_;rintro e w2 ⟨rfl,hb2⟩;obtain ⟨hc2,hf2⟩:=newRes hb1 hb2))
 go_wp2
 refine bodyPost_ret (v:=.tuple #[.agg #[.int .i64 k,.int .i64 (0),.int .i64 (0),.int .i64 (0),.int .i64 (0)],.int .i64 1]) (by simp [results,Tryz.results259,go_sem,hc2,lenOf]) rfl ⟨rfl,?_⟩
 exact (((((stp (stA (stA (stp (stA (st0 _) _) hb1) _) _).drew hb2).setCell (Nat.le_refl _) _).setCell (Nat.le_refl _) _).setCell (Nat.le_refl _) _).setCell (Nat.le_refl _) _).setCell (Nat.le_refl _) _
theorem zrk (k:Nat) (hk:k<32) (h30:k≠30) (hm:O.mask k=1) (a b:Int) (ha:0<=a) (ha':a<=65535) (hb:0<=b) (hb':b<=65535) (hak:a/2048=k) (w:World) (hs:shapesAt w) :
 Calls Tryz.prog 259 #[.int .u16 a,.int .u16 b] w λe w'=>e = .returned (.tuple #[.agg #[.int .i64 k,.int .i64 (a/256%8),.int .i64 (0),.int .i64 (0),.int .i64 (0)],.int .i64 1])/\Below w.heap.size w w':=by
 have hwd:=zaO (.string (O.nameS k)) (.int .i64 (K.cyc k)) k hk
 have HS:=hid hs
 have HM:=hid hm
 have HW:=hid hwd
 rw [hm] at HW
 have eD:=(zbJ (a/256) (by omega) (by omega)).1
 clear hs hm hwd
 go_enter Tryz.func259,Tryz.ntmps259
 go_wp2_with (first
  | (go_at_call 209;refine (zaU k hk h30 _ (zah HS.out _)).mono ?_;rw [HM.out];rintro e w1 ⟨rfl,hb1⟩;obtain ⟨hc1,hf1⟩:=bcell hb1;have hz1:w.heap.size<w1.heap.size:=by have:=hb1.size;simp at this;omega))
 clear eD
 go_region_held3 (λw'=>w'.cell? ⟨w1.heap.size,0,none⟩=some (.string (O.nameS k))/\w'.cell? ⟨w1.heap.size,1,none⟩=some (.int .i64 (K.cyc k))/\w'.cell? ⟨w1.heap.size,2,none⟩=some (.int .i64 1)/\w'.cell? ⟨w1.heap.size+1,0,none⟩=some (.int .i64 (k))/\w'.cell? ⟨w1.heap.size+1,1,none⟩=some (.int .i64 (a/256%8))/\w'.cell? ⟨w1.heap.size+1,2,none⟩=some (.int .i64 (0))/\w'.cell? ⟨w1.heap.size+1,3,none⟩=some (.int .i64 (0))/\w'.cell? ⟨w1.heap.size+1,4,none⟩=some (.int .i64 (0)))
  (first
    | with_reducible exact held8 hb2
    | with_reducible exact held8s hz1 (by assumption)
    | (go_keep;done))
  ((go_at_call 260;refine (HW.out _).mono ?_;rintro e w2 ⟨rfl,hb2⟩;obtain ⟨hc2,hf2⟩:=newRes hb1 hb2))
 go_wp2
 refine bodyPost_ret (v:=.tuple #[.agg #[.int .i64 k,.int .i64 (a/256%8),.int .i64 (0),.int .i64 (0),.int .i64 (0)],.int .i64 1]) (by simp [results,Tryz.results259,go_sem,hc2,lenOf]) rfl ⟨rfl,?_⟩
 exact (((((stp (stA (stA (stp (stA (st0 _) _) hb1) _) _).drew hb2).setCell (Nat.le_refl _) _).setCell (Nat.le_refl _) _).setCell (Nat.le_refl _) _).setCell (Nat.le_refl _) _).setCell (Nat.le_refl _) _
theorem zrl (k:Nat) (hk:k<32) (h30:k≠30) (hm:O.mask k=2) (a b:Int) (ha:0<=a) (ha':a<=65535) (hb:0<=b) (hb':b<=65535) (hak:a/2048=k) (w:World) (hs:shapesAt w) :
 Calls Tryz.prog 259 #[.int .u16 a,.int .u16 b] w λe w'=>e = .returned (.tuple #[.agg #[.int .i64 k,.int .i64 (0),.int .i64 (a/32%8),.int .i64 (0),.int .i64 (0)],.int .i64 1])/\Below w.heap.size w w':=by
 have hwd:=zaO (.string (O.nameS k)) (.int .i64 (K.cyc k)) k hk
 have HS:=hid hs
 have HM:=hid hm
 have HW:=hid hwd
 rw [hm] at HW
 have eS:=(zbJ (a/32) (by omega) (by omega)).1
 clear hs hm hwd
 go_enter Tryz.func259,Tryz.ntmps259
 go_wp2_with (first
  | (go_at_call 209;refine (zaU k hk h30 _ (zah HS.out _)).mono ?_;rw [HM.out];rintro e w1 ⟨rfl,hb1⟩;obtain ⟨hc1,hf1⟩:=bcell hb1;have hz1:w.heap.size<w1.heap.size:=by have:=hb1.size;simp at this;omega))
 clear eS
 go_region_held3 (λw'=>w'.cell? ⟨w1.heap.size,0,none⟩=some (.string (O.nameS k))/\w'.cell? ⟨w1.heap.size,1,none⟩=some (.int .i64 (K.cyc k))/\w'.cell? ⟨w1.heap.size,2,none⟩=some (.int .i64 2)/\w'.cell? ⟨w1.heap.size+1,0,none⟩=some (.int .i64 (k))/\w'.cell? ⟨w1.heap.size+1,1,none⟩=some (.int .i64 (0))/\w'.cell? ⟨w1.heap.size+1,2,none⟩=some (.int .i64 (a/32%8))/\w'.cell? ⟨w1.heap.size+1,3,none⟩=some (.int .i64 (0))/\w'.cell? ⟨w1.heap.size+1,4,none⟩=some (.int .i64 (0)))
  (first
    | with_reducible exact held8 hb2
    | with_reducible exact held8s hz1 (by assumption)
    | (go_keep;done))
  ((go_at_call 260;refine (HW.out _).mono ?_;rintro e w2 ⟨rfl,hb2⟩;obtain ⟨hc2,hf2⟩:=newRes hb1 hb2))
 go_wp2
 refine bodyPost_ret (v:=.tuple #[.agg #[.int .i64 k,.int .i64 (0),.int .i64 (a/32%8),.int .i64 (0),.int .i64 (0)],.int .i64 1]) (by simp [results,Tryz.results259,go_sem,hc2,lenOf]) rfl ⟨rfl,?_⟩
 exact (((((stp (stA (stA (stp (stA (st0 _) _) hb1) _) _).drew hb2).setCell (Nat.le_refl _) _).setCell (Nat.le_refl _) _).setCell (Nat.le_refl _) _).setCell (Nat.le_refl _) _).setCell (Nat.le_refl _) _
theorem zrm (k:Nat) (hk:k<32) (h30:k≠30) (hm:O.mask k=3) (a b:Int) (ha:0<=a) (ha':a<=65535) (hb:0<=b) (hb':b<=65535) (hak:a/2048=k) (w:World) (hs:shapesAt w) :
 Calls Tryz.prog 259 #[.int .u16 a,.int .u16 b] w λe w'=>e = .returned (.tuple #[.agg #[.int .i64 k,.int .i64 (a/256%8),.int .i64 (a/32%8),.int .i64 (0),.int .i64 (0)],.int .i64 1])/\Below w.heap.size w w':=by
 have hwd:=zaO (.string (O.nameS k)) (.int .i64 (K.cyc k)) k hk
 have HS:=hid hs
 have HM:=hid hm
 have HW:=hid hwd
 rw [hm] at HW
 have eD:=(zbJ (a/256) (by omega) (by omega)).1
 have eS:=(zbJ (a/32) (by omega) (by omega)).1
 clear hs hm hwd
 go_enter Tryz.func259,Tryz.ntmps259
 go_wp2_with (first
  | (go_at_call 209;refine (zaU k hk h30 _ (zah HS.out _)).mono ?_;rw [HM.out];rintro e w1 ⟨rfl,hb1⟩;obtain ⟨hc1,hf1⟩:=bcell hb1;have hz1:w.heap.size<w1.heap.size:=by have:=hb1.size;simp at this;omega))
 clear eD eS
 go_region_held3 (λw'=>w'.cell? ⟨w1.heap.size,0,none⟩=some (.string (O.nameS k))/\w'.cell? ⟨w1.heap.size,1,none⟩=some (.int .i64 (K.cyc k))/\w'.cell? ⟨w1.heap.size,2,none⟩=some (.int .i64 3)/\w'.cell? ⟨w1.heap.size+1,0,none⟩=some (.int .i64 (k))/\w'.cell? ⟨w1.heap.size+1,1,none⟩=some (.int .i64 (a/256%8))/\w'.cell? ⟨w1.heap.size+1,2,none⟩=some (.int .i64 (a/32%8))/\w'.cell? ⟨w1.heap.size+1,3,none⟩=some (.int .i64 (0))/\w'.cell? ⟨w1.heap.size+1,4,none⟩=some (.int .i64 (0)))
  (first
    | with_reducible exact held8 hb2
    | with_reducible exact held8s hz1 (by assumption)
    | (go_keep;done))
  ((go_at_call 260;refine (HW.out _).mono ?_;rintro e w2 ⟨rfl,hb2⟩;obtain ⟨hc2,hf2⟩:=newRes hb1 hb2))
 go_wp2
 refine bodyPost_ret (v:=.tuple #[.agg #[.int .i64 k,.int .i64 (a/256%8),.int .i64 (a/32%8),.int .i64 (0),.int .i64 (0)],.int .i64 1]) (by simp [results,Tryz.results259,go_sem,hc2,lenOf]) rfl ⟨rfl,?_⟩
 exact (((((stp (stA (stA (stp (stA (st0 _) _) hb1) _) _).drew hb2).setCell (Nat.le_refl _) _).setCell (Nat.le_refl _) _).setCell (Nat.le_refl _) _).setCell (Nat.le_refl _) _).setCell (Nat.le_refl _) _
theorem zrn (k:Nat) (hk:k<32) (h30:k≠30) (hm:O.mask k=5) (a b:Int) (ha:0<=a) (ha':a<=65535) (hb:0<=b) (hb':b<=65535) (hak:a/2048=k) (w:World) (hs:shapesAt w) :
 Calls Tryz.prog 259 #[.int .u16 a,.int .u16 b] w λe w'=>e = .returned (.tuple #[.agg #[.int .i64 k,.int .i64 (a/256%8),.int .i64 (0),.int .i64 (M.low a 5),.int .i64 (0)],.int .i64 1])/\Below w.heap.size w w':=by
 have hwd:=zaO (.string (O.nameS k)) (.int .i64 (K.cyc k)) k hk
 have HS:=hid hs
 have HM:=hid hm
 have HW:=hid hwd
 rw [hm] at HW
 have eD:=(zbJ (a/256) (by omega) (by omega)).1
 clear hs hm hwd
 go_enter Tryz.func259,Tryz.ntmps259
 go_wp2_with (first
  | (go_at_call 209;refine (zaU k hk h30 _ (zah HS.out _)).mono ?_;rw [HM.out];rintro e w1 ⟨rfl,hb1⟩;obtain ⟨hc1,hf1⟩:=bcell hb1;have hz1:w.heap.size<w1.heap.size:=by have:=hb1.size;simp at this;omega)
  | (go_at_call 315;refine (zb9 _ _ _ (by omega) (by omega) (by omega) (by omega)).mono ?_;rintro e w' ⟨rfl,rfl⟩))
 clear eD
 go_region_held3 (λw'=>w'.cell? ⟨w1.heap.size,0,none⟩=some (.string (O.nameS k))/\w'.cell? ⟨w1.heap.size,1,none⟩=some (.int .i64 (K.cyc k))/\w'.cell? ⟨w1.heap.size,2,none⟩=some (.int .i64 5)/\w'.cell? ⟨w1.heap.size+1,0,none⟩=some (.int .i64 (k))/\w'.cell? ⟨w1.heap.size+1,1,none⟩=some (.int .i64 (a/256%8))/\w'.cell? ⟨w1.heap.size+1,2,none⟩=some (.int .i64 (0))/\w'.cell? ⟨w1.heap.size+1,3,none⟩=some (.int .i64 (M.low a 5))/\w'.cell? ⟨w1.heap.size+1,4,none⟩=some (.int .i64 (0)))
  (first
    | with_reducible exact held8 hb2
    | with_reducible exact held8s hz1 (by assumption)
    | (go_keep;done))
  ((go_at_call 260;refine (HW.out _).mono ?_;rintro e w2 ⟨rfl,hb2⟩;obtain ⟨hc2,hf2⟩:=newRes hb1 hb2))
 go_wp2
 refine bodyPost_ret (v:=.tuple #[.agg #[.int .i64 k,.int .i64 (a/256%8),.int .i64 (0),.int .i64 (M.low a 5),.int .i64 (0)],.int .i64 1]) (by simp [results,Tryz.results259,go_sem,hc2,lenOf]) rfl ⟨rfl,?_⟩
 exact (((((stp (stA (stA (stp (stA (st0 _) _) hb1) _) _).drew hb2).setCell (Nat.le_refl _) _).setCell (Nat.le_refl _) _).setCell (Nat.le_refl _) _).setCell (Nat.le_refl _) _).setCell (Nat.le_refl _) _
end Go.Proofs.YtbennamieealbaaGreatDoor
