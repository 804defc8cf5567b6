/-
  Parts of a proof, joined.
-/
import Derived.Test.YtbhpfkjfijdmaaaGreatDoorZy41
import Derived.Test.YtbhpfkjfijdmaaaGreatDoorZy36
import Derived.Test.YtbhpfkjfijdmaaaGreatDoorZy37
namespace Go.Proofs.YtbhpfkjfijdmaaaGreatDoor
open Go.ChangeShapes Go.WideShapes Go.ChangeAt Go.RowKit
set_option linter.unusedVariables false
set_option maxRecDepth 100000
set_option maxHeartbeats 3200000
theorem slice_wk (w:World) (t:TypeId):sliceAt (w.alloc (.cells #[.int .u8 0,.int .u8 6,.int .u8 0,.int .u8 0,.int .u8 0,.int .u8 0,.int .u8 121,.int .u8 31,.int .u8 216,.int .u8 0] t)) (.slice (some ⟨w.heap.size,0,none⟩) 10 10) wkRom:=by
 refine Or.inr ⟨w.heap.size,0,10,rfl,by decide,by simp,fun i c hi=>?_⟩
 have hB:=Bx.new w [.int .u8 0,.int .u8 6,.int .u8 0,.int .u8 0,.int .u8 0,.int .u8 0,.int .u8 121,.int .u8 31,.int .u8 216,.int .u8 0] t (b:=w.heap.size) rfl
 rw [Nat.zero_add]
 refine hB.at i _ ?_
 have hl:=(List.getElem?_eq_some_iff.1 hi).1
 have hc:i=0 \/ i=1 \/ i=2 \/ i=3 \/ i=4 \/ i=5 \/ i=6 \/ i=7 \/ i=8 \/ i=9:=by simp [wkRom] at hl;omega
 rcases hc with rfl | rfl | rfl | rfl | rfl | rfl | rfl | rfl | rfl | rfl <;> (cases hi;rfl)
theorem lit_dids (Z:World):RwAt (Z.alloc (.cells (dcs wkL).toArray 76)) (.slice (some ⟨Z.heap.size,0,none⟩) 2 2) wkL.length 4 (dcs wkL) :=
 ⟨rfl,Or.inr ⟨Z.heap.size,0,2,rfl,Nat.le_refl _,by simp,fun j x hj=>by rw [Nat.zero_add];exact (Bx.new Z (dcs wkL) 76 (b:=Z.heap.size) rfl).at j x hj⟩⟩
theorem LBx.keep {w:World} {b:Nat} {M:Mach} {S:Sl} {Y Y':World} (h:LBx w b M S Y) (hb:Below Y.heap.size Y Y'):LBx w b M S Y':=⟨stp h.low hb,h.ge,h.bx.kept hb,h.sl.kept hb⟩
theorem Wc.watched (w:World) (hF:AF w):Calls Tryz.prog 20 #[] w fun e w'=>e = .returned (.bool true)/\Below w.heap.size w w':=by
 have HF:=hid hF
 clear hF
 go_enter Tryz.func20,Tryz.ntmps20
 go_upto_region 4 with (first
  | (go_at_call 22;refine (Bu.new_ok wkRom [] _ (.slice none 0 0) _ (slice_wk w _) (sl_nil _) (by decide) (by decide)).mono ?_;rintro e w2 ⟨S2,rfl,hs2,hf2,hn2,hb2⟩
     change SlAt w2 S2 wkM at hs2
     have HS2:=hid hs2
     have HF2:Hid wkM.fit:=hid hf2
     have HL2:=hid (stp (stA (st0 w) _) hb2)
     rw [show newD wkRom []=wkM from rfl]
     clear hs2 hf2 hn2 hb2)
  | (go_at_call 19;refine (Wc.trace wkM S2 (.slice none 0 0) [] 5 _ (HF.out.kept HY1.out.low) HY1.out.sl (fun k hk=>Nat.le_trans (fit_lens HF2.out k hk) (by decide)) { HF2.out with main:=HF2.out.main } (nil_inp _ _) (fun x hx=>by cases hx) ⟨by decide,by decide⟩).mono ?_
     rintro e w3 ⟨vl,X,SX,er,acc,rfl,hE,hO,hS3,hb3⟩
     obtain ⟨rfl,rfl⟩:=wk_tend hE
     obtain ⟨al,cl,el⟩:=row_len2 hO
     subst el
     have HO3:=hid (row_own hO)
     have HI3:=hid (isSl_of hS3)
     have HY3:Hid (LBx w w2.heap.size wkM S2 w3):=hid ⟨stp HY1.out.low hb3,HY1.out.ge,HY1.out.bx.kept hb3,HY1.out.sl.kept hb3⟩
     clear hE hO hS3 hb3)
  | (go_at_call 41;refine (Wc.break wkM S2 (.slice none 0 0) [] 5 8 _ (HF.out.kept HY4.out.1.low).shapes HY4.out.1.sl (fun k hk=>Nat.le_trans (fit_lens HF2.out k hk) (by decide)) { HF2.out with main:=HF2.out.main } (nil_inp _ _) (fun x hx=>by cases hx) ⟨by decide,by decide⟩).mono ?_
     rintro e w5 ⟨Z,SZ,t,er,acc,rfl,hE,hS5,hb5⟩
     obtain ⟨rfl,rfl⟩:=wk_bend hE
     have HI5:=hid (isSl_of hS5)
     have HY5:Hid (Below w.heap.size w w5/\RwAt w5 (.slice al wkL.length cl) wkL.length 4 (dcs wkL)):=hid ⟨stp HY4.out.1.low hb5,HY4.out.2.kept hb5⟩
     clear hE hS5 hb5)
  | (refine wpList_store_mid rfl 41 _ _ rfl w5.heap.size 0 (machL Z SZ).toArray rfl rfl (R1.th w5) info_mach (machL_one _ _ HI5.out) ?_
     refine Pl.cutL (fun Y=>Below w.heap.size w Y/\RwAt Y (.slice al wkL.length cl) wkL.length 4 (dcs wkL)) ⟨stp HY5.out.1 (below_sets' (stA (st0 w5) _) (Nat.le_refl _) _ _),HY5.out.2.kept (below_sets' (stA (st0 w5) _) (Nat.le_refl _) _ _)⟩ ?_
     intro Y6 hY6
     have HY6:=hid hY6
     clear hY6)
  | (refine wpList_store_mid rfl 41 _ _ rfl w3.heap.size 0 (machL X SX).toArray rfl rfl (R1.th w3) info_mach (machL_one _ _ HI3.out) ?_
     refine Pl.cutL (fun Y=>LBx w w2.heap.size wkM S2 Y/\RwAt Y (.slice al wkL.length cl) wkL.length 4 (dcs wkL)) ⟨LBx.keep HY3.out (below_sets' (stA (st0 w3) _) (Nat.le_refl _) _ _),HO3.out.kept (below_sets' (stA (st0 w3) _) (Nat.le_refl _) _ _)⟩ ?_
     intro Y4 hY4
     have HY4:=hid hY4
     clear hY4)
  | (refine wpList_store_mid rfl 41 _ _ rfl w2.heap.size 0 (machL wkM S2).toArray rfl rfl (R1.th w2) info_mach (machL_one _ _ (isSl_of HS2.out)) ?_
     refine Pl.cutL (LBx w w2.heap.size wkM S2) (LBx.mk0 HL2.out HS2.out) ?_
     intro Y1 hY1
     have HY1:=hid hY1
     clear hY1)
  | (refine wpList_load_mid rfl 41 _ rfl w2.heap.size 0 rfl (machL wkM S2) _ HY4.out.1.bx.c Tryz.underlying41 rfl info_mach ?_)
  | (refine wpList_load_mid rfl 41 _ rfl w2.heap.size 0 rfl (machL wkM S2) _ HY1.out.bx.c Tryz.underlying41 rfl info_mach ?_))
 clear HY1 HY3 HY4 HY5 HF HF2 HS2 HL2 HI3 HI5 HO3
 go_wp2_with (go_at_call 42;refine (Wc.sameDid _ _ wkL _ (HY6.out.2.kept (stA (st0 Y6) _)) (lit_dids Y6) (by decide)).mono ?_;rintro e w9 ⟨rfl,hb9⟩)
 go_ret
 exact ⟨rfl,stp (stA HY6.out.1 _) hb9⟩
structure QT (w w1 : World) (M : Mach) (S : Sl) (v : Value) (l : List Inp) (X : Mach) (SX : Sl) (Y : World) : Prop where
 low:Below w.heap.size w Y
 mb:Bx Y w.heap.size (machL M S)
 xb:Bx Y w1.heap.size (machL X SX)
 sl:SlAt Y SX X
theorem QT.kept {w w1:World} {M:Mach} {S:Sl} {v:Value} {l:List Inp} {X:Mach} {SX:Sl} {Y Y':World} (h:QT w w1 M S v l X SX Y) (hb:Below Y.heap.size Y Y'):QT w w1 M S v l X SX Y':=⟨stp h.low hb,h.mb.kept hb,h.xb.kept hb,h.sl.kept hb⟩
theorem QT.mk0 {w w1:World} {M:Mach} {S:Sl} {v:Value} {l:List Inp} {X:Mach} {SX:Sl} (hl:Below w.heap.size w w1) (hm:Bx w1 w.heap.size (machL M S)) (hs:SlAt w1 SX X):QT w w1 M S v l X SX ((w1.alloc (.cells (machL zeroM nilS).toArray 41)).setCells w1.heap.size 0 (machL X SX)):=by
 have h1:=(Bx.new w1 (machL zeroM nilS) 41 (b:=w1.heap.size) rfl).puts 0 (machL X SX) (by rw [machL_len,machL_len];omega)
 rw [putL_whole _ _ (by rw [machL_len,machL_len])] at h1
 have hb:Below w1.heap.size w1 ((w1.alloc (.cells (machL zeroM nilS).toArray 41)).setCells w1.heap.size 0 (machL X SX)):=below_sets' (stA (st0 w1) _) (Nat.le_refl _) _ _
 exact ⟨stp hl hb,hm.kept hb,h1,hs.kept hb⟩
theorem Wc.quiet (M:Mach) (S:Sl) (v:Value) (l:List Inp) (n:Int) (w:World) (hF:AF w) (hs:SlAt w S M) (hz:∀ j,j < 5->(M.byt j).length<=9223372036854775807) (hok:M.ok) (hin:InpAt w.heap.size w v l) (hdn:∀ x ∈ l,0<=x.d/\x.d<=255) (hn:-9223372036854775808<=n/\n<=9223372036854775807) :
 Calls Tryz.prog 5 #[.agg (machL M S).toArray,v,.int .i64 n] w fun e w'=>e = .returned (.bool true)/\Below w.heap.size w w':=by
 have hq:Below w.heap.size w (w.alloc (.cells (machL M S).toArray 41)):=stA (st0 w) _
 have HB:=hid (Bx.new w (machL M S) 41 (b:=w.heap.size) rfl)
 have HTR:=hid (Wc.trace M S v l n _ (hF.kept hq) (hs.kept hq) hz hok ((hin.kept hq).mono hq.size) hdn hn)
 have HQ:=hid hq
 have HF:=hid hF
 have HS:=hid hs
 have HIN:=hid hin
 have HDN:=hid hdn
 clear hq hF hs hz hok hin hdn
 go_enter Tryz.func5,Tryz.ntmps5
 go_upto_region 2 with (first
  | (refine wpList_load_mid rfl 41 _ rfl w.heap.size 0 rfl (machL M S) _ HB.out.c Tryz.underlying41 rfl info_mach ?_)
  | (go_at_call 19;refine HTR.out.mono ?_;rintro e w1 ⟨vl,X,SX,er,acc,rfl,hE,hO,hS1,hb1⟩
     obtain ⟨al,cl,el⟩:=row_len2 hO
     subst el
     have HE:=hid hE
     have HS1:=hid hS1
     have HL1:=hid (stp HQ.out hb1)
     have HB1:=hid (HB.out.kept hb1)
     clear hE hO hS1 hb1)
  | (refine wpList_store_mid rfl 41 _ _ rfl w1.heap.size 0 (machL X SX).toArray rfl rfl (R1.th w1) info_mach (machL_one _ _ (isSl_of HS1.out)) ?_
     refine Pl.cutL (QT w w1 M S v l X SX) (QT.mk0 HL1.out HB1.out HS1.out) ?_
     intro Y1 hY1
     have HY1:=hid hY1
     clear hY1))
 clear HB HTR HQ HS1 HL1 HB1
 by_cases he:er=0
 case neg =>
  have hd:(er != 0)=true:=by simpa using he
  clear he
  go_wp2_with (first
   | (go_at_call 20;refine (Wc.watched _ (HF.out.kept HY2.out.low)).mono ?_;rintro e w3 ⟨rfl,hb3⟩;have HY3:=hid (HY2.out.kept hb3);clear hb3)
   | (go_at_call 20;refine (Wc.watched _ (HF.out.kept HY1.out.low)).mono ?_;rintro e w2 ⟨rfl,hb2⟩;have HY2:=hid (HY1.out.kept hb2);clear hb2))
  go_ret
  exact ⟨rfl,HY3.out.low⟩
 case pos =>
  subst he
  rcases HE.out with ⟨h0,_⟩ | ⟨_,hfe,hft,hR,hX,_⟩
  ·exact absurd rfl h0
  obtain ⟨N,rfl⟩:∃ N:Nat,n=N:=by
   unfold fErr at hfe
   split at hfe
   ·split at hfe
    ·rename_i h;exact Int.eq_ofNat_of_zero_le h.1 |>.imp (fun _ h=>h)
    ·cases hfe
   ·rename_i h;exact absurd hfe h
  rw [Int.toNat_natCast] at hX
  have hb:N<=20000/\M.clock+N<=200000:=by
   unfold fErr at hfe
   split at hfe
   ·split at hfe
    ·rename_i h;omega
    ·cases hfe
   ·rename_i h;exact absurd hfe h
  have HX:=hid hX
  have HFT:=hid hft
  have HR:=hid hR
  have HB:=hid hb
  clear HE hfe hft hR hX hb
  by_cases h19:19000 < M.b.f
  ·have hd:decide (19000 < M.b.f)=true:=decide_eq_true h19
   clear h19
   go_wp2_with (first
    | (go_at_call 20;refine (Wc.watched _ (HF.out.kept HY3.out.low)).mono ?_;rintro e w4 ⟨rfl,hb4⟩;have HY4:=hid (HY3.out.kept hb4);clear hb4)
    | (go_at_call 20;refine (Wc.watched _ (HF.out.kept HY1.out.low)).mono ?_;rintro e w2 ⟨rfl,hb2⟩;have HY2:=hid (HY1.out.kept hb2);clear hb2)
    | (go_at_call 9;refine (Lk.long_any M S _ _).mono ?_;rw [hd];rintro e w3 ⟨rfl,hb3⟩;have HY3:=hid (HY2.out.kept hb3);clear hb3)
    | (refine Bu.loadG rfl 41 _ rfl w.heap.size 0 rfl (machL M S) _ HY2.out.mb.c Tryz.underlying41 rfl info_mach ?_))
   go_ret
   exact ⟨rfl,HY4.out.low⟩
  ·have hd:decide (19000 < M.b.f)=false:=decide_eq_false h19
   have H20:Hid (M.b.f<=20000):=hid (by omega)
   clear h19
   go_upto_region 4 with (first
    | (go_at_call 20;refine (Wc.watched _ (HF.out.kept HY1.out.low)).mono ?_;rintro e w2 ⟨rfl,hb2⟩;have HY2:=hid (HY1.out.kept hb2);clear hb2)
    | (go_at_call 9;refine (Lk.long_any M S _ _).mono ?_;rw [hd];rintro e w3 ⟨rfl,hb3⟩;have HY3:=hid (HY2.out.kept hb3);clear hb3)
    | (refine Bu.loadG rfl 41 _ rfl w.heap.size 0 rfl (machL M S) _ HY2.out.mb.c Tryz.underlying41 rfl info_mach ?_))
   have hru:=Lk.run_ok M S v l N w3 (HS.out.kept HY3.out.low) (HF.out.kept HY3.out.low).shapes ((HIN.out.kept HY3.out.low).mono HY3.out.low.size) HDN.out HFT.out H20.out HR.out.ck HB.out
   have HRU:=hid hru
   clear hru hd
   go_upto_region 5 with (first
    | (refine wpList_load_mid rfl 41 _ rfl w.heap.size 0 rfl (machL M S) _ HY3.out.mb.c Tryz.underlying41 rfl info_mach ?_)
    | (go_at_call 10;refine HRU.out.mono ?_;rintro e w5 ⟨F,K,vln,vsm,vw,rfl,hTd,_,_,_,hb5⟩
       obtain ⟨p1,c1,e1⟩:=row_len hTd.ln
       obtain ⟨p2,c2,e2⟩:=row_len hTd.sm
       obtain ⟨p3,c3,e3⟩:=row_len hTd.ws
       subst e1 e2 e3
       have hX:=HX.out
       rw [show (Cs.clocks ⟨⟨M,0,[]⟩,l,[],[]⟩ N).s.M=X from hX.symm]
       have HSX:Hid (SlAt w5 F.S X):=hid (by rw [hX];exact hTd.sl)
       have HY5:=hid (HY3.out.kept hb5)
       clear hTd hb5 hX)
    | (refine wpList_store_mid rfl 41 _ _ rfl w5.heap.size 0 (machL X F.S).toArray rfl rfl (R3.th1 w5) info_mach (machL_one _ _ (isSl_of HSX.out)) ?_
       refine Pl.cutL (R3 w5 X F.S nil3) (R3.mk1 w5 X F.S) ?_
       intro Y6 hY6
       have HY6:=hid hY6
       clear hY6)
    | (refine wpList_store_mid rfl 50 _ _ rfl (w5.heap.size+1) 0 #[.slice p1 _ c1,.slice p2 _ c2,.slice p3 _ c3] rfl rfl (HY6.out.s.there 0 3 (by simp)) info_shown (one3 _ _ _ _ _ _ _ _ _) ?_
       refine Pl.cutL (R3 w5 X F.S [.slice p1 _ c1,.slice p2 _ c2,.slice p3 _ c3]) HY6.out.put ?_
       intro Y7 hY7
       have HY7:=hid (And.intro (HY5.out.kept hY7.old) (And.intro hY7.x (HSX.out.kept hY7.old)))
       clear hY7))
   clear HY1 HY2 HY3 HY5 HY6 HRU
   go_wp2_with (first
    | (go_at_call 14;refine (Bu.same_any X SX F.S _ HY7.out.1.sl HY7.out.2.2).mono ?_;rintro e w9 ⟨rfl,hb9⟩)
    | (refine Bu.loadG rfl 41 _ rfl w1.heap.size 0 rfl (machL X SX) _ HY7.out.1.xb.c Tryz.underlying41 rfl info_mach ?_)
    | (refine Bu.loadG rfl 41 _ rfl w5.heap.size 0 rfl (machL X F.S) _ HY7.out.2.1.c Tryz.underlying41 rfl info_mach ?_))
   go_ret
   exact ⟨rfl,stp HY7.out.1.low hb9⟩
end Go.Proofs.YtbhpfkjfijdmaaaGreatDoor
