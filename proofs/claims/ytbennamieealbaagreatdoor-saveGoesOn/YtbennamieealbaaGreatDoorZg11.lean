/-
  Parts of a proof, joined.
-/
import Derived.Test.YtbennamieealbaaGreatDoorZg01
import Derived.Test.YtbennamieealbaaGreatDoorZg10
set_option linter.unusedVariables false
set_option maxRecDepth 100000
set_option maxHeartbeats 3200000
namespace Go.Proofs.YtbennamieealbaaGreatDoor
open Go.ChangeShapes Go.WideShapes Go.ChangeAt Go.RowKit
section
variable {T : TypeId} {g m fb fo fw fn fl : Nat} {St : Nat -> World -> Prop} {No : World -> Prop}
theorem Sv.at0 (x0 x1:Value) (w:World):(Instr.index 202 (.agg #[x0,x1]) (.int .i64 0)).run Tryz.prog w = .ok x0 w:=by kernel_rfl
theorem Sv.at1 (x0 x1:Value) (w:World):(Instr.index 202 (.agg #[x0,x1]) (.int .i64 1)).run Tryz.prog w = .ok x1 w:=by kernel_rfl
theorem Sv.carry (h:Car T g m fb fo fw fn fl St No) (W:World) (h0:St 0 W):Calls Tryz.prog 67 #[.iface T (pt g 0),pt m 0] W (Stp St No 75):=by
 have eb:=h.eb
 have mb:=h.mb
 have nb:=h.nb
 have eo:=h.eo
 have mo:=h.mo
 have no:=h.no
 have ew:=h.ew
 have mw:=h.mw
 have nw:=h.nw
 have en:=h.en
 have mn:=h.mn
 have nn:=h.nn
 have el:=h.el
 have ml:=h.ml
 have nl:=h.nl
 have H:=hid h
 have H0:=hid (h.drew _ _ h0)
 clear h h0
 go_enter Tryz.func67,Tryz.ntmps67
 go_upto_region 0 with fail
 refine zac (S:=λ_=>True) (st:=8) (by kernel_rfl) ?_
 refine tqG 0 ⟨some 8,_,_,_,_,none⟩ (λ_=>trivial) ?_
 simp only [Act.put,xA,xB,xC]
 refine tqG 1 ⟨some 9,_,_,_,_,none⟩ (λ_=>trivial) ?_
 simp only [Act.put,xA,xB,xC]
 refine tqG 2 ⟨some 10,_,_,_,_,none⟩ (λ_=>trivial) ?_
 simp only [Act.put,xA,xB,xC]
 refine tqG 3 ⟨some 11,_,_,_,_,none⟩ (λ_=>trivial) ?_
 simp only [Act.put,xA,xB,xC]
 refine tqG 4 ⟨some 12,_,_,_,_,none⟩ (λ_=>trivial) ?_
 simp only [Act.put,xA,xB,xC]
 refine tqG 5 ⟨some 13,_,_,_,_,none⟩ (λ_=>trivial) ?_
 simp only [Act.put,xA,xB,xC]
 refine tqG 6 ⟨some 14,_,_,_,_,none⟩ (λ_=>trivial) ?_
 simp only [Act.put,xA,xB,xC]
 refine tqG 7 ⟨some 15,_,_,_,_,none⟩ (λ_=>trivial) ?_
 simp only [Act.put,xA,xB,xC]
 refine zab (by kernel_rfl) ?_ _
 go_wp2
 go_loopw [15] (λi wr=>∃ j:Nat,j<=2/\i = .int .i64 j/\St (15*j) wr) (λi _=>2-(intOf i).toNat)
 case atStart=>exact ⟨0,by omega,rfl,H0.out⟩
 case round =>
  obtain ⟨j,hj,rfl,hs⟩:=hrel
  have HS:=hid hs
  clear hs
  have hc:j=0 \/ j=1 \/ j=2:=by omega
  rcases hc with rfl|rfl|rfl
  ·have ix:=Sv.at0 (pt m 0) (pt m 15)
   go_wp2_with (go_at_call 120;refine (Sv.cpu0 H.out _ HS.out).mono ?_;rintro e w1 (⟨rfl,h1⟩|⟨rfl,h1⟩))
   all_goals first
    | exact ⟨rfl,Or.inl ⟨rfl,h1⟩⟩
    | exact ⟨⟨1,by omega,rfl,h1⟩,by simp [intOf]⟩
  ·have ix:=Sv.at1 (pt m 0) (pt m 15)
   go_wp2_with (go_at_call 120;refine (Sv.cpu15 H.out _ HS.out).mono ?_;rintro e w1 (⟨rfl,h1⟩|⟨rfl,h1⟩))
   all_goals first
    | exact ⟨rfl,Or.inl ⟨rfl,h1⟩⟩
    | exact ⟨⟨2,by omega,rfl,h1⟩,by simp [intOf]⟩
  ·go_upto_region 5 with fail
   have HQ:=hid (H.out.sl wr.drew (H.out.drew _ _ HS.out))
   refine zac (S:=λ_=>True) (st:=20) (by kernel_rfl) ?_
   refine tqG 0 ⟨some 22,_,_,_,_,none⟩ (λ_=>trivial) ?_
   simp only [Act.put,xA,xB,xC]
   refine tqG 1 ⟨some 23,_,_,_,_,none⟩ (λ_=>trivial) ?_
   simp only [Act.put,xA,xB,xC]
   refine tqG 2 ⟨some 24,_,_,_,_,none⟩ (λ_=>trivial) ?_
   simp only [Act.put,xA,xB,xC]
   refine tqG 3 ⟨some 25,_,_,_,_,none⟩ (λ_=>trivial) ?_
   simp only [Act.put,xA,xB,xC]
   refine tqG 4 ⟨some 26,_,_,_,_,none⟩ (λ_=>trivial) ?_
   simp only [Act.put,xA,xB,xC]
   refine tqG 5 ⟨some 27,_,_,_,_,none⟩ (λ_=>trivial) ?_
   simp only [Act.put,xA,xB,xC]
   refine tqG 6 ⟨some 28,_,_,_,_,none⟩ (λ_=>trivial) ?_
   simp only [Act.put,xA,xB,xC]
   refine tqG 7 ⟨some 29,_,_,_,_,none⟩ (λ_=>trivial) ?_
   simp only [Act.put,xA,xB,xC]
   refine tqG 8 ⟨some 30,_,_,_,_,none⟩ (λ_=>trivial) ?_
   simp only [Act.put,xA,xB,xC]
   refine tqG 9 ⟨some 31,_,_,_,_,none⟩ (λ_=>trivial) ?_
   simp only [Act.put,xA,xB,xC]
   refine tqG 10 ⟨some 32,_,_,_,_,none⟩ (λ_=>trivial) ?_
   simp only [Act.put,xA,xB,xC]
   refine tqG 11 ⟨some 33,_,_,_,_,none⟩ (λ_=>trivial) ?_
   simp only [Act.put,xA,xB,xC]
   refine tqG 12 ⟨some 34,_,_,_,_,none⟩ (λ_=>trivial) ?_
   simp only [Act.put,xA,xB,xC]
   refine tqG 13 ⟨some 35,_,_,_,_,none⟩ (λ_=>trivial) ?_
   simp only [Act.put,xA,xB,xC]
   refine tqG 14 ⟨some 36,_,_,_,_,none⟩ (λ_=>trivial) ?_
   simp only [Act.put,xA,xB,xC]
   refine tqG 15 ⟨some 37,_,_,_,_,none⟩ (λ_=>trivial) ?_
   simp only [Act.put,xA,xB,xC]
   refine tqG 17 ⟨some 39,_,_,_,_,none⟩ (λ_=>trivial) ?_
   simp only [Act.put,xA,xB,xC]
   refine tqG 18 ⟨some 40,_,_,_,_,none⟩ (λ_=>trivial) ?_
   simp only [Act.put,xA,xB,xC]
   refine tqG 19 ⟨some 41,_,_,_,_,none⟩ (λ_=>trivial) ?_
   simp only [Act.put,xA,xB,xC]
   refine zaa (i:=16) (o:=⟨some 38,_,_,_,_,none⟩) (by kernel_rfl) rfl (λK hK=>?_)
   go_simp
   refine hK.out _ _ (λ_=>trivial) ?_
   clear hK K
   try simp only [Act.put,xA,xB,xC]
   refine zaa (i:=20) (o:=⟨some 42,_,_,_,_,none⟩) (by kernel_rfl) rfl (λK hK=>?_)
   go_simp
   refine HQ.out.mono ?_
   rintro e w1 (⟨rfl,h1⟩|⟨rfl,h1⟩)
   ·exact ⟨rfl,Or.inl ⟨rfl,h1⟩⟩
   ·refine hK.out _ _ (λ_=>trivial) ?_
    clear hK K
    try simp only [Act.put,xA,xB,xC]
    refine zab (by kernel_rfl) ?_ _
    have HS1:=hid h1
    clear h1 HQ
    go_wp2
    go_loopw [43] (λi wr=>∃ j:Nat,j<=2/\i = .int .i64 j/\St (35+3*j) wr) (λi _=>2-(intOf i).toNat)
    case atStart=>exact ⟨0,by omega,rfl,HS1.out⟩
    case round =>
     obtain ⟨j,hj,rfl,hs⟩:=hrel
     have HS:=hid hs
     clear hs
     have hc:j=0 \/ j=1 \/ j=2:=by omega
     rcases hc with rfl|rfl|rfl
     ·go_upto_region 10 with fail
      have HQ:=hid (H.out.sb 35 2 wr.drew (H.out.drew _ _ HS.out) rfl)
      refine zac (S:=λ_=>True) (st:=11) (by kernel_rfl) ?_
      refine tqG 0 ⟨some 51,_,_,_,_,none⟩ (λ_=>trivial) ?_
      simp only [Act.put,xA,xB,xC]
      refine tqG 1 ⟨some 52,_,_,_,_,none⟩ (λ_=>trivial) ?_
      simp only [Act.put,xA,xB,xC]
      refine tqG 2 ⟨some 53,_,_,_,_,none⟩ (λ_=>trivial) ?_
      simp only [Act.put,xA,xB,xC]
      refine tqG 3 ⟨some 54,_,_,_,_,none⟩ (λ_=>trivial) ?_
      simp only [Act.put,xA,xB,xC]
      refine tqG 4 ⟨some 55,_,_,_,_,none⟩ (λ_=>trivial) ?_
      simp only [Act.put,xA,xB,xC]
      refine tqG 5 ⟨some 56,_,_,_,_,none⟩ (λ_=>trivial) ?_
      simp only [Act.put,xA,xB,xC]
      refine tqG 6 ⟨some 57,_,_,_,_,none⟩ (λ_=>trivial) ?_
      simp only [Act.put,xA,xB,xC]
      refine tqG 8 ⟨some 59,_,_,_,_,none⟩ (λ_=>trivial) ?_
      simp only [Act.put,xA,xB,xC]
      refine tqG 9 ⟨some 60,_,_,_,_,none⟩ (λ_=>trivial) ?_
      simp only [Act.put,xA,xB,xC]
      refine tqG 10 ⟨some 61,_,_,_,_,none⟩ (λ_=>trivial) ?_
      simp only [Act.put,xA,xB,xC]
      refine zaa (i:=7) (o:=⟨some 58,_,_,_,_,none⟩) (by kernel_rfl) rfl (λK hK=>?_)
      go_simp
      refine hK.out _ _ (λ_=>trivial) ?_
      clear hK K
      try simp only [Act.put,xA,xB,xC]
      refine zaa (i:=11) (o:=⟨some 62,_,_,_,_,none⟩) (by kernel_rfl) rfl (λK hK=>?_)
      go_simp
      refine HQ.out.mono ?_
      rintro e w1 (⟨rfl,h1⟩|⟨rfl,h1⟩)
      ·exact ⟨rfl,Or.inl ⟨rfl,h1⟩⟩
      ·refine hK.out _ _ (λ_=>trivial) ?_
       clear hK K
       try simp only [Act.put,xA,xB,xC]
       refine zab (by kernel_rfl) ?_ _
       have HS:=hid h1
       clear h1 HQ
       go_upto_region 11 with fail
       have HQ:=hid (H.out.so 37 1 w1.drew (H.out.drew _ _ HS.out) rfl)
       refine zac (S:=λ_=>True) (st:=8) (by kernel_rfl) ?_
       refine tqG 0 ⟨some 63,_,_,_,_,none⟩ (λ_=>trivial) ?_
       simp only [Act.put,xA,xB,xC]
       refine tqG 1 ⟨some 64,_,_,_,_,none⟩ (λ_=>trivial) ?_
       simp only [Act.put,xA,xB,xC]
       refine tqG 2 ⟨some 65,_,_,_,_,none⟩ (λ_=>trivial) ?_
       simp only [Act.put,xA,xB,xC]
       refine tqG 3 ⟨some 66,_,_,_,_,none⟩ (λ_=>trivial) ?_
       simp only [Act.put,xA,xB,xC]
       refine tqG 5 ⟨some 68,_,_,_,_,none⟩ (λ_=>trivial) ?_
       simp only [Act.put,xA,xB,xC]
       refine tqG 6 ⟨some 69,_,_,_,_,none⟩ (λ_=>trivial) ?_
       simp only [Act.put,xA,xB,xC]
       refine tqG 7 ⟨some 70,_,_,_,_,none⟩ (λ_=>trivial) ?_
       simp only [Act.put,xA,xB,xC]
       refine zaa (i:=4) (o:=⟨some 67,_,_,_,_,none⟩) (by kernel_rfl) rfl (λK hK=>?_)
       go_simp
       refine hK.out _ _ (λ_=>trivial) ?_
       clear hK K
       try simp only [Act.put,xA,xB,xC]
       refine zaa (i:=8) (o:=⟨some 71,_,_,_,_,none⟩) (by kernel_rfl) rfl (λK hK=>?_)
       go_simp
       refine HQ.out.mono ?_
       rintro e w2 (⟨rfl,h1⟩|⟨rfl,h1⟩)
       ·exact ⟨rfl,Or.inl ⟨rfl,h1⟩⟩
       ·refine hK.out _ _ (λ_=>trivial) ?_
        clear hK K
        try simp only [Act.put,xA,xB,xC]
        refine zab (by kernel_rfl) ?_ _
        go_wp2
        exact ⟨⟨1,by omega,rfl,h1⟩,by simp [intOf]⟩
     ·go_upto_region 10 with fail
      have HQ:=hid (H.out.sb 38 2 wr.drew (H.out.drew _ _ HS.out) rfl)
      refine zac (S:=λ_=>True) (st:=11) (by kernel_rfl) ?_
      refine tqG 0 ⟨some 51,_,_,_,_,none⟩ (λ_=>trivial) ?_
      simp only [Act.put,xA,xB,xC]
      refine tqG 1 ⟨some 52,_,_,_,_,none⟩ (λ_=>trivial) ?_
      simp only [Act.put,xA,xB,xC]
      refine tqG 2 ⟨some 53,_,_,_,_,none⟩ (λ_=>trivial) ?_
      simp only [Act.put,xA,xB,xC]
      refine tqG 3 ⟨some 54,_,_,_,_,none⟩ (λ_=>trivial) ?_
      simp only [Act.put,xA,xB,xC]
      refine tqG 4 ⟨some 55,_,_,_,_,none⟩ (λ_=>trivial) ?_
      simp only [Act.put,xA,xB,xC]
      refine tqG 5 ⟨some 56,_,_,_,_,none⟩ (λ_=>trivial) ?_
      simp only [Act.put,xA,xB,xC]
      refine tqG 6 ⟨some 57,_,_,_,_,none⟩ (λ_=>trivial) ?_
      simp only [Act.put,xA,xB,xC]
      refine tqG 8 ⟨some 59,_,_,_,_,none⟩ (λ_=>trivial) ?_
      simp only [Act.put,xA,xB,xC]
      refine tqG 9 ⟨some 60,_,_,_,_,none⟩ (λ_=>trivial) ?_
      simp only [Act.put,xA,xB,xC]
      refine tqG 10 ⟨some 61,_,_,_,_,none⟩ (λ_=>trivial) ?_
      simp only [Act.put,xA,xB,xC]
      refine zaa (i:=7) (o:=⟨some 58,_,_,_,_,none⟩) (by kernel_rfl) rfl (λK hK=>?_)
      go_simp
      refine hK.out _ _ (λ_=>trivial) ?_
      clear hK K
      try simp only [Act.put,xA,xB,xC]
      refine zaa (i:=11) (o:=⟨some 62,_,_,_,_,none⟩) (by kernel_rfl) rfl (λK hK=>?_)
      go_simp
      refine HQ.out.mono ?_
      rintro e w1 (⟨rfl,h1⟩|⟨rfl,h1⟩)
      ·exact ⟨rfl,Or.inl ⟨rfl,h1⟩⟩
      ·refine hK.out _ _ (λ_=>trivial) ?_
       clear hK K
       try simp only [Act.put,xA,xB,xC]
       refine zab (by kernel_rfl) ?_ _
       have HS:=hid h1
       clear h1 HQ
       go_upto_region 11 with fail
       have HQ:=hid (H.out.so 40 1 w1.drew (H.out.drew _ _ HS.out) rfl)
       refine zac (S:=λ_=>True) (st:=8) (by kernel_rfl) ?_
       refine tqG 0 ⟨some 63,_,_,_,_,none⟩ (λ_=>trivial) ?_
       simp only [Act.put,xA,xB,xC]
       refine tqG 1 ⟨some 64,_,_,_,_,none⟩ (λ_=>trivial) ?_
       simp only [Act.put,xA,xB,xC]
       refine tqG 2 ⟨some 65,_,_,_,_,none⟩ (λ_=>trivial) ?_
       simp only [Act.put,xA,xB,xC]
       refine tqG 3 ⟨some 66,_,_,_,_,none⟩ (λ_=>trivial) ?_
       simp only [Act.put,xA,xB,xC]
       refine tqG 5 ⟨some 68,_,_,_,_,none⟩ (λ_=>trivial) ?_
       simp only [Act.put,xA,xB,xC]
       refine tqG 6 ⟨some 69,_,_,_,_,none⟩ (λ_=>trivial) ?_
       simp only [Act.put,xA,xB,xC]
       refine tqG 7 ⟨some 70,_,_,_,_,none⟩ (λ_=>trivial) ?_
       simp only [Act.put,xA,xB,xC]
       refine zaa (i:=4) (o:=⟨some 67,_,_,_,_,none⟩) (by kernel_rfl) rfl (λK hK=>?_)
       go_simp
       refine hK.out _ _ (λ_=>trivial) ?_
       clear hK K
       try simp only [Act.put,xA,xB,xC]
       refine zaa (i:=8) (o:=⟨some 71,_,_,_,_,none⟩) (by kernel_rfl) rfl (λK hK=>?_)
       go_simp
       refine HQ.out.mono ?_
       rintro e w2 (⟨rfl,h1⟩|⟨rfl,h1⟩)
       ·exact ⟨rfl,Or.inl ⟨rfl,h1⟩⟩
       ·refine hK.out _ _ (λ_=>trivial) ?_
        clear hK K
        try simp only [Act.put,xA,xB,xC]
        refine zab (by kernel_rfl) ?_ _
        go_wp2
        exact ⟨⟨2,by omega,rfl,h1⟩,by simp [intOf]⟩
     ·go_upto_region 13 with fail
      have HQ:=hid (H.out.sw 41 2 wr.drew (H.out.drew _ _ HS.out) rfl)
      refine zac (S:=λ_=>True) (st:=13) (by kernel_rfl) ?_
      refine tqG 0 ⟨some 73,_,_,_,_,none⟩ (λ_=>trivial) ?_
      simp only [Act.put,xA,xB,xC]
      refine tqG 1 ⟨some 74,_,_,_,_,none⟩ (λ_=>trivial) ?_
      simp only [Act.put,xA,xB,xC]
      refine tqG 2 ⟨some 75,_,_,_,_,none⟩ (λ_=>trivial) ?_
      simp only [Act.put,xA,xB,xC]
      refine tqG 3 ⟨some 76,_,_,_,_,none⟩ (λ_=>trivial) ?_
      simp only [Act.put,xA,xB,xC]
      refine tqG 4 ⟨some 77,_,_,_,_,none⟩ (λ_=>trivial) ?_
      simp only [Act.put,xA,xB,xC]
      refine tqG 5 ⟨some 78,_,_,_,_,none⟩ (λ_=>trivial) ?_
      simp only [Act.put,xA,xB,xC]
      refine tqG 6 ⟨some 79,_,_,_,_,none⟩ (λ_=>trivial) ?_
      simp only [Act.put,xA,xB,xC]
      refine tqG 7 ⟨some 80,_,_,_,_,none⟩ (λ_=>trivial) ?_
      simp only [Act.put,xA,xB,xC]
      refine tqG 8 ⟨some 81,_,_,_,_,none⟩ (λ_=>trivial) ?_
      simp only [Act.put,xA,xB,xC]
      refine tqG 10 ⟨some 83,_,_,_,_,none⟩ (λ_=>trivial) ?_
      simp only [Act.put,xA,xB,xC]
      refine tqG 11 ⟨some 84,_,_,_,_,none⟩ (λ_=>trivial) ?_
      simp only [Act.put,xA,xB,xC]
      refine tqG 12 ⟨some 85,_,_,_,_,none⟩ (λ_=>trivial) ?_
      simp only [Act.put,xA,xB,xC]
      refine zaa (i:=9) (o:=⟨some 82,_,_,_,_,none⟩) (by kernel_rfl) rfl (λK hK=>?_)
      go_simp
      refine hK.out _ _ (λ_=>trivial) ?_
      clear hK K
      try simp only [Act.put,xA,xB,xC]
      refine zaa (i:=13) (o:=⟨some 86,_,_,_,_,none⟩) (by kernel_rfl) rfl (λK hK=>?_)
      go_simp
      refine HQ.out.mono ?_
      rintro e w1 (⟨rfl,h1⟩|⟨rfl,h1⟩)
      ·exact ⟨rfl,Or.inl ⟨rfl,h1⟩⟩
      ·refine hK.out _ _ (λ_=>trivial) ?_
       clear hK K
       try simp only [Act.put,xA,xB,xC]
       refine zab (by kernel_rfl) ?_ _
       have HS:=hid h1
       clear h1 HQ
       go_upto_region 14 with fail
       have HQ:=hid (H.out.so 43 2 w1.drew (H.out.drew _ _ HS.out) rfl)
       refine zac (S:=λ_=>True) (st:=13) (by kernel_rfl) ?_
       refine tqG 0 ⟨some 87,_,_,_,_,none⟩ (λ_=>trivial) ?_
       simp only [Act.put,xA,xB,xC]
       refine tqG 1 ⟨some 88,_,_,_,_,none⟩ (λ_=>trivial) ?_
       simp only [Act.put,xA,xB,xC]
       refine tqG 2 ⟨some 89,_,_,_,_,none⟩ (λ_=>trivial) ?_
       simp only [Act.put,xA,xB,xC]
       refine tqG 3 ⟨some 90,_,_,_,_,none⟩ (λ_=>trivial) ?_
       simp only [Act.put,xA,xB,xC]
       refine tqG 4 ⟨some 91,_,_,_,_,none⟩ (λ_=>trivial) ?_
       simp only [Act.put,xA,xB,xC]
       refine tqG 5 ⟨some 92,_,_,_,_,none⟩ (λ_=>trivial) ?_
       simp only [Act.put,xA,xB,xC]
       refine tqG 6 ⟨some 93,_,_,_,_,none⟩ (λ_=>trivial) ?_
       simp only [Act.put,xA,xB,xC]
       refine tqG 7 ⟨some 94,_,_,_,_,none⟩ (λ_=>trivial) ?_
       simp only [Act.put,xA,xB,xC]
       refine tqG 8 ⟨some 95,_,_,_,_,none⟩ (λ_=>trivial) ?_
       simp only [Act.put,xA,xB,xC]
       refine tqG 10 ⟨some 97,_,_,_,_,none⟩ (λ_=>trivial) ?_
       simp only [Act.put,xA,xB,xC]
       refine tqG 11 ⟨some 98,_,_,_,_,none⟩ (λ_=>trivial) ?_
       simp only [Act.put,xA,xB,xC]
       refine tqG 12 ⟨some 99,_,_,_,_,none⟩ (λ_=>trivial) ?_
       simp only [Act.put,xA,xB,xC]
       refine zaa (i:=9) (o:=⟨some 96,_,_,_,_,none⟩) (by kernel_rfl) rfl (λK hK=>?_)
       go_simp
       refine hK.out _ _ (λ_=>trivial) ?_
       clear hK K
       try simp only [Act.put,xA,xB,xC]
       refine zaa (i:=13) (o:=⟨some 100,_,_,_,_,none⟩) (by kernel_rfl) rfl (λK hK=>?_)
       go_simp
       refine HQ.out.mono ?_
       rintro e w2 (⟨rfl,h1⟩|⟨rfl,h1⟩)
       ·exact ⟨rfl,Or.inl ⟨rfl,h1⟩⟩
       ·refine hK.out _ _ (λ_=>trivial) ?_
        clear hK K
        try simp only [Act.put,xA,xB,xC]
        refine zab (by kernel_rfl) ?_ _
        have HS:=hid h1
        clear h1 HQ
        go_upto_region 16 with (go_at_call 121;refine (Sv.sound H.out _ HS.out).mono ?_;rintro e w1 (⟨rfl,h1⟩|⟨rfl,h1⟩))
        case' inl=>exact ⟨rfl,Or.inl ⟨rfl,h1⟩⟩
        have HS:=hid h1
        clear h1
        have HQ:=hid (H.out.sn 61 3 w1.drew (H.out.drew _ _ HS.out) rfl)
        refine zac (S:=λ_=>True) (st:=17) (by kernel_rfl) ?_
        refine tqG 0 ⟨some 106,_,_,_,_,none⟩ (λ_=>trivial) ?_
        simp only [Act.put,xA,xB,xC]
        refine tqG 1 ⟨some 107,_,_,_,_,none⟩ (λ_=>trivial) ?_
        simp only [Act.put,xA,xB,xC]
        refine tqG 2 ⟨some 108,_,_,_,_,none⟩ (λ_=>trivial) ?_
        simp only [Act.put,xA,xB,xC]
        refine tqG 3 ⟨some 109,_,_,_,_,none⟩ (λ_=>trivial) ?_
        simp only [Act.put,xA,xB,xC]
        refine tqG 4 ⟨some 110,_,_,_,_,none⟩ (λ_=>trivial) ?_
        simp only [Act.put,xA,xB,xC]
        refine tqG 5 ⟨some 111,_,_,_,_,none⟩ (λ_=>trivial) ?_
        simp only [Act.put,xA,xB,xC]
        refine tqG 6 ⟨some 112,_,_,_,_,none⟩ (λ_=>trivial) ?_
        simp only [Act.put,xA,xB,xC]
        refine tqG 7 ⟨some 113,_,_,_,_,none⟩ (λ_=>trivial) ?_
        simp only [Act.put,xA,xB,xC]
        refine tqG 8 ⟨some 114,_,_,_,_,none⟩ (λ_=>trivial) ?_
        simp only [Act.put,xA,xB,xC]
        refine tqG 9 ⟨some 115,_,_,_,_,none⟩ (λ_=>trivial) ?_
        simp only [Act.put,xA,xB,xC]
        refine tqG 10 ⟨some 116,_,_,_,_,none⟩ (λ_=>trivial) ?_
        simp only [Act.put,xA,xB,xC]
        refine tqG 11 ⟨some 117,_,_,_,_,none⟩ (λ_=>trivial) ?_
        simp only [Act.put,xA,xB,xC]
        refine tqG 12 ⟨some 118,_,_,_,_,none⟩ (λ_=>trivial) ?_
        simp only [Act.put,xA,xB,xC]
        refine tqG 14 ⟨some 120,_,_,_,_,none⟩ (λ_=>trivial) ?_
        simp only [Act.put,xA,xB,xC]
        refine tqG 15 ⟨some 121,_,_,_,_,none⟩ (λ_=>trivial) ?_
        simp only [Act.put,xA,xB,xC]
        refine tqG 16 ⟨some 122,_,_,_,_,none⟩ (λ_=>trivial) ?_
        simp only [Act.put,xA,xB,xC]
        refine zaa (i:=13) (o:=⟨some 119,_,_,_,_,none⟩) (by kernel_rfl) rfl (λK hK=>?_)
        go_simp
        refine hK.out _ _ (λ_=>trivial) ?_
        clear hK K
        try simp only [Act.put,xA,xB,xC]
        refine zaa (i:=17) (o:=⟨some 123,_,_,_,_,none⟩) (by kernel_rfl) rfl (λK hK=>?_)
        go_simp
        refine HQ.out.mono ?_
        rintro e w2 (⟨rfl,h1⟩|⟨rfl,h1⟩)
        ·exact ⟨rfl,Or.inl ⟨rfl,h1⟩⟩
        ·refine hK.out _ _ (λ_=>trivial) ?_
         clear hK K
         try simp only [Act.put,xA,xB,xC]
         refine zab (by kernel_rfl) ?_ _
         have HS:=hid h1
         clear h1 HQ
         go_upto_region 17 with fail
         have HQ:=hid (H.out.so 64 1 w2.drew (H.out.drew _ _ HS.out) rfl)
         refine zac (S:=λ_=>True) (st:=9) (by kernel_rfl) ?_
         refine tqG 0 ⟨some 124,_,_,_,_,none⟩ (λ_=>trivial) ?_
         simp only [Act.put,xA,xB,xC]
         refine tqG 1 ⟨some 125,_,_,_,_,none⟩ (λ_=>trivial) ?_
         simp only [Act.put,xA,xB,xC]
         refine tqG 2 ⟨some 126,_,_,_,_,none⟩ (λ_=>trivial) ?_
         simp only [Act.put,xA,xB,xC]
         refine tqG 3 ⟨some 127,_,_,_,_,none⟩ (λ_=>trivial) ?_
         simp only [Act.put,xA,xB,xC]
         refine tqG 4 ⟨some 128,_,_,_,_,none⟩ (λ_=>trivial) ?_
         simp only [Act.put,xA,xB,xC]
         refine tqG 6 ⟨some 130,_,_,_,_,none⟩ (λ_=>trivial) ?_
         simp only [Act.put,xA,xB,xC]
         refine tqG 7 ⟨some 131,_,_,_,_,none⟩ (λ_=>trivial) ?_
         simp only [Act.put,xA,xB,xC]
         refine tqG 8 ⟨some 132,_,_,_,_,none⟩ (λ_=>trivial) ?_
         simp only [Act.put,xA,xB,xC]
         refine zaa (i:=5) (o:=⟨some 129,_,_,_,_,none⟩) (by kernel_rfl) rfl (λK hK=>?_)
         go_simp
         refine hK.out _ _ (λ_=>trivial) ?_
         clear hK K
         try simp only [Act.put,xA,xB,xC]
         refine zaa (i:=9) (o:=⟨some 133,_,_,_,_,none⟩) (by kernel_rfl) rfl (λK hK=>?_)
         go_simp
         refine HQ.out.mono ?_
         rintro e w1 (⟨rfl,h1⟩|⟨rfl,h1⟩)
         ·exact ⟨rfl,Or.inl ⟨rfl,h1⟩⟩
         ·refine hK.out _ _ (λ_=>trivial) ?_
          clear hK K
          try simp only [Act.put,xA,xB,xC]
          refine zab (by kernel_rfl) ?_ _
          have HS:=hid h1
          clear h1 HQ
          go_upto_region 18 with fail
          have HQ:=hid (H.out.sw 65 2 w1.drew (H.out.drew _ _ HS.out) rfl)
          refine zac (S:=λ_=>True) (st:=11) (by kernel_rfl) ?_
          refine tqG 0 ⟨some 134,_,_,_,_,none⟩ (λ_=>trivial) ?_
          simp only [Act.put,xA,xB,xC]
          refine tqG 1 ⟨some 135,_,_,_,_,none⟩ (λ_=>trivial) ?_
          simp only [Act.put,xA,xB,xC]
          refine tqG 2 ⟨some 136,_,_,_,_,none⟩ (λ_=>trivial) ?_
          simp only [Act.put,xA,xB,xC]
          refine tqG 3 ⟨some 137,_,_,_,_,none⟩ (λ_=>trivial) ?_
          simp only [Act.put,xA,xB,xC]
          refine tqG 4 ⟨some 138,_,_,_,_,none⟩ (λ_=>trivial) ?_
          simp only [Act.put,xA,xB,xC]
          refine tqG 5 ⟨some 139,_,_,_,_,none⟩ (λ_=>trivial) ?_
          simp only [Act.put,xA,xB,xC]
          refine tqG 6 ⟨some 140,_,_,_,_,none⟩ (λ_=>trivial) ?_
          simp only [Act.put,xA,xB,xC]
          refine tqG 8 ⟨some 142,_,_,_,_,none⟩ (λ_=>trivial) ?_
          simp only [Act.put,xA,xB,xC]
          refine tqG 9 ⟨some 143,_,_,_,_,none⟩ (λ_=>trivial) ?_
          simp only [Act.put,xA,xB,xC]
          refine tqG 10 ⟨some 144,_,_,_,_,none⟩ (λ_=>trivial) ?_
          simp only [Act.put,xA,xB,xC]
          refine zaa (i:=7) (o:=⟨some 141,_,_,_,_,none⟩) (by kernel_rfl) rfl (λK hK=>?_)
          go_simp
          refine hK.out _ _ (λ_=>trivial) ?_
          clear hK K
          try simp only [Act.put,xA,xB,xC]
          refine zaa (i:=11) (o:=⟨some 145,_,_,_,_,none⟩) (by kernel_rfl) rfl (λK hK=>?_)
          go_simp
          refine HQ.out.mono ?_
          rintro e w2 (⟨rfl,h1⟩|⟨rfl,h1⟩)
          ·exact ⟨rfl,Or.inl ⟨rfl,h1⟩⟩
          ·refine hK.out _ _ (λ_=>trivial) ?_
           clear hK K
           try simp only [Act.put,xA,xB,xC]
           refine zab (by kernel_rfl) ?_ _
           have HS:=hid h1
           clear h1 HQ
           go_upto_region 19 with fail
           have HQ:=hid (H.out.sb 67 2 w2.drew (H.out.drew _ _ HS.out) rfl)
           refine zac (S:=λ_=>True) (st:=13) (by kernel_rfl) ?_
           refine tqG 0 ⟨some 146,_,_,_,_,none⟩ (λ_=>trivial) ?_
           simp only [Act.put,xA,xB,xC]
           refine tqG 1 ⟨some 147,_,_,_,_,none⟩ (λ_=>trivial) ?_
           simp only [Act.put,xA,xB,xC]
           refine tqG 2 ⟨some 148,_,_,_,_,none⟩ (λ_=>trivial) ?_
           simp only [Act.put,xA,xB,xC]
           refine tqG 3 ⟨some 149,_,_,_,_,none⟩ (λ_=>trivial) ?_
           simp only [Act.put,xA,xB,xC]
           refine tqG 4 ⟨some 150,_,_,_,_,none⟩ (λ_=>trivial) ?_
           simp only [Act.put,xA,xB,xC]
           refine tqG 5 ⟨some 151,_,_,_,_,none⟩ (λ_=>trivial) ?_
           simp only [Act.put,xA,xB,xC]
           refine tqG 6 ⟨some 152,_,_,_,_,none⟩ (λ_=>trivial) ?_
           simp only [Act.put,xA,xB,xC]
           refine tqG 7 ⟨some 153,_,_,_,_,none⟩ (λ_=>trivial) ?_
           simp only [Act.put,xA,xB,xC]
           refine tqG 8 ⟨some 154,_,_,_,_,none⟩ (λ_=>trivial) ?_
           simp only [Act.put,xA,xB,xC]
           refine tqG 10 ⟨some 156,_,_,_,_,none⟩ (λ_=>trivial) ?_
           simp only [Act.put,xA,xB,xC]
           refine tqG 11 ⟨some 157,_,_,_,_,none⟩ (λ_=>trivial) ?_
           simp only [Act.put,xA,xB,xC]
           refine tqG 12 ⟨some 158,_,_,_,_,none⟩ (λ_=>trivial) ?_
           simp only [Act.put,xA,xB,xC]
           refine zaa (i:=9) (o:=⟨some 155,_,_,_,_,none⟩) (by kernel_rfl) rfl (λK hK=>?_)
           go_simp
           refine hK.out _ _ (λ_=>trivial) ?_
           clear hK K
           try simp only [Act.put,xA,xB,xC]
           refine zaa (i:=13) (o:=⟨some 159,_,_,_,_,none⟩) (by kernel_rfl) rfl (λK hK=>?_)
           go_simp
           refine HQ.out.mono ?_
           rintro e w1 (⟨rfl,h1⟩|⟨rfl,h1⟩)
           ·exact ⟨rfl,Or.inl ⟨rfl,h1⟩⟩
           ·refine hK.out _ _ (λ_=>trivial) ?_
            clear hK K
            try simp only [Act.put,xA,xB,xC]
            refine zab (by kernel_rfl) ?_ _
            have HS:=hid h1
            clear h1 HQ
            go_upto_region 20 with fail
            have HQ:=hid (H.out.so 69 3 w1.drew (H.out.drew _ _ HS.out) rfl)
            refine zac (S:=λ_=>True) (st:=14) (by kernel_rfl) ?_
            refine tqG 0 ⟨some 160,_,_,_,_,none⟩ (λ_=>trivial) ?_
            simp only [Act.put,xA,xB,xC]
            refine tqG 1 ⟨some 161,_,_,_,_,none⟩ (λ_=>trivial) ?_
            simp only [Act.put,xA,xB,xC]
            refine tqG 2 ⟨some 162,_,_,_,_,none⟩ (λ_=>trivial) ?_
            simp only [Act.put,xA,xB,xC]
            refine tqG 3 ⟨some 163,_,_,_,_,none⟩ (λ_=>trivial) ?_
            simp only [Act.put,xA,xB,xC]
            refine tqG 4 ⟨some 164,_,_,_,_,none⟩ (λ_=>trivial) ?_
            simp only [Act.put,xA,xB,xC]
            refine tqG 5 ⟨some 165,_,_,_,_,none⟩ (λ_=>trivial) ?_
            simp only [Act.put,xA,xB,xC]
            refine tqG 6 ⟨some 166,_,_,_,_,none⟩ (λ_=>trivial) ?_
            simp only [Act.put,xA,xB,xC]
            refine tqG 7 ⟨some 167,_,_,_,_,none⟩ (λ_=>trivial) ?_
            simp only [Act.put,xA,xB,xC]
            refine tqG 8 ⟨some 168,_,_,_,_,none⟩ (λ_=>trivial) ?_
            simp only [Act.put,xA,xB,xC]
            refine tqG 9 ⟨some 169,_,_,_,_,none⟩ (λ_=>trivial) ?_
            simp only [Act.put,xA,xB,xC]
            refine tqG 11 ⟨some 171,_,_,_,_,none⟩ (λ_=>trivial) ?_
            simp only [Act.put,xA,xB,xC]
            refine tqG 12 ⟨some 172,_,_,_,_,none⟩ (λ_=>trivial) ?_
            simp only [Act.put,xA,xB,xC]
            refine tqG 13 ⟨some 173,_,_,_,_,none⟩ (λ_=>trivial) ?_
            simp only [Act.put,xA,xB,xC]
            refine zaa (i:=10) (o:=⟨some 170,_,_,_,_,none⟩) (by kernel_rfl) rfl (λK hK=>?_)
            go_simp
            refine hK.out _ _ (λ_=>trivial) ?_
            clear hK K
            try simp only [Act.put,xA,xB,xC]
            refine zaa (i:=14) (o:=⟨some 174,_,_,_,_,none⟩) (by kernel_rfl) rfl (λK hK=>?_)
            go_simp
            refine HQ.out.mono ?_
            rintro e w2 (⟨rfl,h1⟩|⟨rfl,h1⟩)
            ·exact ⟨rfl,Or.inl ⟨rfl,h1⟩⟩
            ·refine hK.out _ _ (λ_=>trivial) ?_
             clear hK K
             try simp only [Act.put,xA,xB,xC]
             refine zab (by kernel_rfl) ?_ _
             have HS:=hid h1
             clear h1 HQ
             go_upto_region 21 with fail
             have HQ:=hid (H.out.sn 72 3 w2.drew (H.out.drew _ _ HS.out) rfl)
             refine zac (S:=λ_=>True) (st:=14) (by kernel_rfl) ?_
             refine tqG 0 ⟨some 175,_,_,_,_,none⟩ (λ_=>trivial) ?_
             simp only [Act.put,xA,xB,xC]
             refine tqG 1 ⟨some 176,_,_,_,_,none⟩ (λ_=>trivial) ?_
             simp only [Act.put,xA,xB,xC]
             refine tqG 2 ⟨some 177,_,_,_,_,none⟩ (λ_=>trivial) ?_
             simp only [Act.put,xA,xB,xC]
             refine tqG 3 ⟨some 178,_,_,_,_,none⟩ (λ_=>trivial) ?_
             simp only [Act.put,xA,xB,xC]
             refine tqG 4 ⟨some 179,_,_,_,_,none⟩ (λ_=>trivial) ?_
             simp only [Act.put,xA,xB,xC]
             refine tqG 5 ⟨some 180,_,_,_,_,none⟩ (λ_=>trivial) ?_
             simp only [Act.put,xA,xB,xC]
             refine tqG 6 ⟨some 181,_,_,_,_,none⟩ (λ_=>trivial) ?_
             simp only [Act.put,xA,xB,xC]
             refine tqG 7 ⟨some 182,_,_,_,_,none⟩ (λ_=>trivial) ?_
             simp only [Act.put,xA,xB,xC]
             refine tqG 8 ⟨some 183,_,_,_,_,none⟩ (λ_=>trivial) ?_
             simp only [Act.put,xA,xB,xC]
             refine tqG 9 ⟨some 184,_,_,_,_,none⟩ (λ_=>trivial) ?_
             simp only [Act.put,xA,xB,xC]
             refine tqG 11 ⟨some 186,_,_,_,_,none⟩ (λ_=>trivial) ?_
             simp only [Act.put,xA,xB,xC]
             refine tqG 12 ⟨some 187,_,_,_,_,none⟩ (λ_=>trivial) ?_
             simp only [Act.put,xA,xB,xC]
             refine tqG 13 ⟨some 188,_,_,_,_,none⟩ (λ_=>trivial) ?_
             simp only [Act.put,xA,xB,xC]
             refine zaa (i:=10) (o:=⟨some 185,_,_,_,_,none⟩) (by kernel_rfl) rfl (λK hK=>?_)
             go_simp
             refine hK.out _ _ (λ_=>trivial) ?_
             clear hK K
             try simp only [Act.put,xA,xB,xC]
             refine zaa (i:=14) (o:=⟨some 189,_,_,_,_,none⟩) (by kernel_rfl) rfl (λK hK=>?_)
             go_simp
             refine HQ.out.mono ?_
             rintro e w1 (⟨rfl,h1⟩|⟨rfl,h1⟩)
             ·exact ⟨rfl,Or.inl ⟨rfl,h1⟩⟩
             ·refine hK.out _ _ (λ_=>trivial) ?_
              clear hK K
              try simp only [Act.put,xA,xB,xC]
              refine zab (by kernel_rfl) ?_ _
              go_end0
              exact Or.inr ⟨rfl,h1⟩
end
end Go.Proofs.YtbennamieealbaaGreatDoor
