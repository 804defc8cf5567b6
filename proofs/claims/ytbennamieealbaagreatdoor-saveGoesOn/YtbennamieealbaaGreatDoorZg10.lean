/-
  Parts of a proof, joined.
-/
import Derived.Test.YtbennamieealbaaGreatDoorZg01
import Derived.Test.YtbennamieealbaaGreatDoorZg09
set_option linter.unusedVariables false
set_option maxRecDepth 100000
set_option maxHeartbeats 1600000
namespace Go.Proofs.YtbennamieealbaaGreatDoor
open Go.ChangeShapes Go.WideShapes Go.ChangeAt Go.RowKit
section
variable {T : TypeId} {g m fb fo fw fn fl : Nat} {St : Nat -> World -> Prop} {No : World -> Prop}
theorem Sv.sound (h:Car T g m fb fo fw fn fl St No) (W:World) (h0:St 45 W):Calls Tryz.prog 121 #[.iface T (pt g 0),pt m 45] W (Stp St No 61):=by
 have eb:=h.eb
 have mb:=h.mb
 have nb:=h.nb
 have eo:=h.eo
 have mo:=h.mo
 have no:=h.no
 have ew:=h.ew
 have mw:=h.mw
 have nw:=h.nw
 have en:=h.en
 have mn:=h.mn
 have nn:=h.nn
 have el:=h.el
 have ml:=h.ml
 have nl:=h.nl
 have H:=hid h
 have H0:=hid h0
 clear h h0
 go_enter Tryz.func121,Tryz.ntmps121
 go_wp2
 go_loopw [6] (λi wr=>∃ j:Nat,j<=3/\i = .int .i64 j/\St (45+5*j) wr) (λi _=>3-(intOf i).toNat)
 case atStart=>exact ⟨0,by omega,rfl,H0.out⟩
 case round =>
  obtain ⟨j,hj,rfl,hs⟩:=hrel
  have HS:=hid hs
  clear hs
  have hc:j=0 \/ j=1 \/ j=2 \/ j=3:=by omega
  rcases hc with rfl|rfl|rfl|rfl
  ·go_upto_region 4 with fail
   have HQ:=hid (H.out.sw 45 3 wr.drew (H.out.drew _ _ HS.out) rfl)
   refine zac (S:=λ_=>True) (st:=14) (by kernel_rfl) ?_
   refine tqG 0 ⟨some 14,_,_,_,_,none⟩ (λ_=>trivial) ?_
   simp only [Act.put,xA,xB,xC]
   refine tqG 1 ⟨some 15,_,_,_,_,none⟩ (λ_=>trivial) ?_
   simp only [Act.put,xA,xB,xC]
   refine tqG 2 ⟨some 16,_,_,_,_,none⟩ (λ_=>trivial) ?_
   simp only [Act.put,xA,xB,xC]
   refine tqG 3 ⟨some 17,_,_,_,_,none⟩ (λ_=>trivial) ?_
   simp only [Act.put,xA,xB,xC]
   refine tqG 4 ⟨some 18,_,_,_,_,none⟩ (λ_=>trivial) ?_
   simp only [Act.put,xA,xB,xC]
   refine tqG 5 ⟨some 19,_,_,_,_,none⟩ (λ_=>trivial) ?_
   simp only [Act.put,xA,xB,xC]
   refine tqG 6 ⟨some 20,_,_,_,_,none⟩ (λ_=>trivial) ?_
   simp only [Act.put,xA,xB,xC]
   refine tqG 7 ⟨some 21,_,_,_,_,none⟩ (λ_=>trivial) ?_
   simp only [Act.put,xA,xB,xC]
   refine tqG 8 ⟨some 22,_,_,_,_,none⟩ (λ_=>trivial) ?_
   simp only [Act.put,xA,xB,xC]
   refine tqG 9 ⟨some 23,_,_,_,_,none⟩ (λ_=>trivial) ?_
   simp only [Act.put,xA,xB,xC]
   refine tqG 11 ⟨some 25,_,_,_,_,none⟩ (λ_=>trivial) ?_
   simp only [Act.put,xA,xB,xC]
   refine tqG 12 ⟨some 26,_,_,_,_,none⟩ (λ_=>trivial) ?_
   simp only [Act.put,xA,xB,xC]
   refine tqG 13 ⟨some 27,_,_,_,_,none⟩ (λ_=>trivial) ?_
   simp only [Act.put,xA,xB,xC]
   refine zaa (i:=10) (o:=⟨some 24,_,_,_,_,none⟩) (by kernel_rfl) rfl (λK hK=>?_)
   go_simp
   refine hK.out _ _ (λ_=>trivial) ?_
   clear hK K
   try simp only [Act.put,xA,xB,xC]
   refine zaa (i:=14) (o:=⟨some 28,_,_,_,_,none⟩) (by kernel_rfl) rfl (λK hK=>?_)
   go_simp
   refine HQ.out.mono ?_
   rintro e w1 (⟨rfl,h1⟩|⟨rfl,h1⟩)
   ·exact ⟨rfl,Or.inl ⟨rfl,h1⟩⟩
   ·refine hK.out _ _ (λ_=>trivial) ?_
    clear hK K
    try simp only [Act.put,xA,xB,xC]
    refine zab (by kernel_rfl) ?_ _
    have HS:=hid h1
    clear h1 HQ
    go_upto_region 5 with fail
    have HQ:=hid (H.out.sb 48 1 w1.drew (H.out.drew _ _ HS.out) rfl)
    refine zac (S:=λ_=>True) (st:=8) (by kernel_rfl) ?_
    refine tqG 0 ⟨some 29,_,_,_,_,none⟩ (λ_=>trivial) ?_
    simp only [Act.put,xA,xB,xC]
    refine tqG 1 ⟨some 30,_,_,_,_,none⟩ (λ_=>trivial) ?_
    simp only [Act.put,xA,xB,xC]
    refine tqG 2 ⟨some 31,_,_,_,_,none⟩ (λ_=>trivial) ?_
    simp only [Act.put,xA,xB,xC]
    refine tqG 3 ⟨some 32,_,_,_,_,none⟩ (λ_=>trivial) ?_
    simp only [Act.put,xA,xB,xC]
    refine tqG 5 ⟨some 34,_,_,_,_,none⟩ (λ_=>trivial) ?_
    simp only [Act.put,xA,xB,xC]
    refine tqG 6 ⟨some 35,_,_,_,_,none⟩ (λ_=>trivial) ?_
    simp only [Act.put,xA,xB,xC]
    refine tqG 7 ⟨some 36,_,_,_,_,none⟩ (λ_=>trivial) ?_
    simp only [Act.put,xA,xB,xC]
    refine zaa (i:=4) (o:=⟨some 33,_,_,_,_,none⟩) (by kernel_rfl) rfl (λK hK=>?_)
    go_simp
    refine hK.out _ _ (λ_=>trivial) ?_
    clear hK K
    try simp only [Act.put,xA,xB,xC]
    refine zaa (i:=8) (o:=⟨some 37,_,_,_,_,none⟩) (by kernel_rfl) rfl (λK hK=>?_)
    go_simp
    refine HQ.out.mono ?_
    rintro e w2 (⟨rfl,h1⟩|⟨rfl,h1⟩)
    ·exact ⟨rfl,Or.inl ⟨rfl,h1⟩⟩
    ·refine hK.out _ _ (λ_=>trivial) ?_
     clear hK K
     try simp only [Act.put,xA,xB,xC]
     refine zab (by kernel_rfl) ?_ _
     have HS:=hid h1
     clear h1 HQ
     go_upto_region 6 with fail
     have HQ:=hid (H.out.so 49 1 w2.drew (H.out.drew _ _ HS.out) rfl)
     refine zac (S:=λ_=>True) (st:=8) (by kernel_rfl) ?_
     refine tqG 0 ⟨some 38,_,_,_,_,none⟩ (λ_=>trivial) ?_
     simp only [Act.put,xA,xB,xC]
     refine tqG 1 ⟨some 39,_,_,_,_,none⟩ (λ_=>trivial) ?_
     simp only [Act.put,xA,xB,xC]
     refine tqG 2 ⟨some 40,_,_,_,_,none⟩ (λ_=>trivial) ?_
     simp only [Act.put,xA,xB,xC]
     refine tqG 3 ⟨some 41,_,_,_,_,none⟩ (λ_=>trivial) ?_
     simp only [Act.put,xA,xB,xC]
     refine tqG 5 ⟨some 43,_,_,_,_,none⟩ (λ_=>trivial) ?_
     simp only [Act.put,xA,xB,xC]
     refine tqG 6 ⟨some 44,_,_,_,_,none⟩ (λ_=>trivial) ?_
     simp only [Act.put,xA,xB,xC]
     refine tqG 7 ⟨some 45,_,_,_,_,none⟩ (λ_=>trivial) ?_
     simp only [Act.put,xA,xB,xC]
     refine zaa (i:=4) (o:=⟨some 42,_,_,_,_,none⟩) (by kernel_rfl) rfl (λK hK=>?_)
     go_simp
     refine hK.out _ _ (λ_=>trivial) ?_
     clear hK K
     try simp only [Act.put,xA,xB,xC]
     refine zaa (i:=8) (o:=⟨some 46,_,_,_,_,none⟩) (by kernel_rfl) rfl (λK hK=>?_)
     go_simp
     refine HQ.out.mono ?_
     rintro e w1 (⟨rfl,h1⟩|⟨rfl,h1⟩)
     ·exact ⟨rfl,Or.inl ⟨rfl,h1⟩⟩
     ·refine hK.out _ _ (λ_=>trivial) ?_
      clear hK K
      try simp only [Act.put,xA,xB,xC]
      refine zab (by kernel_rfl) ?_ _
      go_wp2
      exact ⟨⟨1,by omega,rfl,h1⟩,by simp [intOf]⟩
  ·go_upto_region 4 with fail
   have HQ:=hid (H.out.sw 50 3 wr.drew (H.out.drew _ _ HS.out) rfl)
   refine zac (S:=λ_=>True) (st:=14) (by kernel_rfl) ?_
   refine tqG 0 ⟨some 14,_,_,_,_,none⟩ (λ_=>trivial) ?_
   simp only [Act.put,xA,xB,xC]
   refine tqG 1 ⟨some 15,_,_,_,_,none⟩ (λ_=>trivial) ?_
   simp only [Act.put,xA,xB,xC]
   refine tqG 2 ⟨some 16,_,_,_,_,none⟩ (λ_=>trivial) ?_
   simp only [Act.put,xA,xB,xC]
   refine tqG 3 ⟨some 17,_,_,_,_,none⟩ (λ_=>trivial) ?_
   simp only [Act.put,xA,xB,xC]
   refine tqG 4 ⟨some 18,_,_,_,_,none⟩ (λ_=>trivial) ?_
   simp only [Act.put,xA,xB,xC]
   refine tqG 5 ⟨some 19,_,_,_,_,none⟩ (λ_=>trivial) ?_
   simp only [Act.put,xA,xB,xC]
   refine tqG 6 ⟨some 20,_,_,_,_,none⟩ (λ_=>trivial) ?_
   simp only [Act.put,xA,xB,xC]
   refine tqG 7 ⟨some 21,_,_,_,_,none⟩ (λ_=>trivial) ?_
   simp only [Act.put,xA,xB,xC]
   refine tqG 8 ⟨some 22,_,_,_,_,none⟩ (λ_=>trivial) ?_
   simp only [Act.put,xA,xB,xC]
   refine tqG 9 ⟨some 23,_,_,_,_,none⟩ (λ_=>trivial) ?_
   simp only [Act.put,xA,xB,xC]
   refine tqG 11 ⟨some 25,_,_,_,_,none⟩ (λ_=>trivial) ?_
   simp only [Act.put,xA,xB,xC]
   refine tqG 12 ⟨some 26,_,_,_,_,none⟩ (λ_=>trivial) ?_
   simp only [Act.put,xA,xB,xC]
   refine tqG 13 ⟨some 27,_,_,_,_,none⟩ (λ_=>trivial) ?_
   simp only [Act.put,xA,xB,xC]
   refine zaa (i:=10) (o:=⟨some 24,_,_,_,_,none⟩) (by kernel_rfl) rfl (λK hK=>?_)
   go_simp
   refine hK.out _ _ (λ_=>trivial) ?_
   clear hK K
   try simp only [Act.put,xA,xB,xC]
   refine zaa (i:=14) (o:=⟨some 28,_,_,_,_,none⟩) (by kernel_rfl) rfl (λK hK=>?_)
   go_simp
   refine HQ.out.mono ?_
   rintro e w1 (⟨rfl,h1⟩|⟨rfl,h1⟩)
   ·exact ⟨rfl,Or.inl ⟨rfl,h1⟩⟩
   ·refine hK.out _ _ (λ_=>trivial) ?_
    clear hK K
    try simp only [Act.put,xA,xB,xC]
    refine zab (by kernel_rfl) ?_ _
    have HS:=hid h1
    clear h1 HQ
    go_upto_region 5 with fail
    have HQ:=hid (H.out.sb 53 1 w1.drew (H.out.drew _ _ HS.out) rfl)
    refine zac (S:=λ_=>True) (st:=8) (by kernel_rfl) ?_
    refine tqG 0 ⟨some 29,_,_,_,_,none⟩ (λ_=>trivial) ?_
    simp only [Act.put,xA,xB,xC]
    refine tqG 1 ⟨some 30,_,_,_,_,none⟩ (λ_=>trivial) ?_
    simp only [Act.put,xA,xB,xC]
    refine tqG 2 ⟨some 31,_,_,_,_,none⟩ (λ_=>trivial) ?_
    simp only [Act.put,xA,xB,xC]
    refine tqG 3 ⟨some 32,_,_,_,_,none⟩ (λ_=>trivial) ?_
    simp only [Act.put,xA,xB,xC]
    refine tqG 5 ⟨some 34,_,_,_,_,none⟩ (λ_=>trivial) ?_
    simp only [Act.put,xA,xB,xC]
    refine tqG 6 ⟨some 35,_,_,_,_,none⟩ (λ_=>trivial) ?_
    simp only [Act.put,xA,xB,xC]
    refine tqG 7 ⟨some 36,_,_,_,_,none⟩ (λ_=>trivial) ?_
    simp only [Act.put,xA,xB,xC]
    refine zaa (i:=4) (o:=⟨some 33,_,_,_,_,none⟩) (by kernel_rfl) rfl (λK hK=>?_)
    go_simp
    refine hK.out _ _ (λ_=>trivial) ?_
    clear hK K
    try simp only [Act.put,xA,xB,xC]
    refine zaa (i:=8) (o:=⟨some 37,_,_,_,_,none⟩) (by kernel_rfl) rfl (λK hK=>?_)
    go_simp
    refine HQ.out.mono ?_
    rintro e w2 (⟨rfl,h1⟩|⟨rfl,h1⟩)
    ·exact ⟨rfl,Or.inl ⟨rfl,h1⟩⟩
    ·refine hK.out _ _ (λ_=>trivial) ?_
     clear hK K
     try simp only [Act.put,xA,xB,xC]
     refine zab (by kernel_rfl) ?_ _
     have HS:=hid h1
     clear h1 HQ
     go_upto_region 6 with fail
     have HQ:=hid (H.out.so 54 1 w2.drew (H.out.drew _ _ HS.out) rfl)
     refine zac (S:=λ_=>True) (st:=8) (by kernel_rfl) ?_
     refine tqG 0 ⟨some 38,_,_,_,_,none⟩ (λ_=>trivial) ?_
     simp only [Act.put,xA,xB,xC]
     refine tqG 1 ⟨some 39,_,_,_,_,none⟩ (λ_=>trivial) ?_
     simp only [Act.put,xA,xB,xC]
     refine tqG 2 ⟨some 40,_,_,_,_,none⟩ (λ_=>trivial) ?_
     simp only [Act.put,xA,xB,xC]
     refine tqG 3 ⟨some 41,_,_,_,_,none⟩ (λ_=>trivial) ?_
     simp only [Act.put,xA,xB,xC]
     refine tqG 5 ⟨some 43,_,_,_,_,none⟩ (λ_=>trivial) ?_
     simp only [Act.put,xA,xB,xC]
     refine tqG 6 ⟨some 44,_,_,_,_,none⟩ (λ_=>trivial) ?_
     simp only [Act.put,xA,xB,xC]
     refine tqG 7 ⟨some 45,_,_,_,_,none⟩ (λ_=>trivial) ?_
     simp only [Act.put,xA,xB,xC]
     refine zaa (i:=4) (o:=⟨some 42,_,_,_,_,none⟩) (by kernel_rfl) rfl (λK hK=>?_)
     go_simp
     refine hK.out _ _ (λ_=>trivial) ?_
     clear hK K
     try simp only [Act.put,xA,xB,xC]
     refine zaa (i:=8) (o:=⟨some 46,_,_,_,_,none⟩) (by kernel_rfl) rfl (λK hK=>?_)
     go_simp
     refine HQ.out.mono ?_
     rintro e w1 (⟨rfl,h1⟩|⟨rfl,h1⟩)
     ·exact ⟨rfl,Or.inl ⟨rfl,h1⟩⟩
     ·refine hK.out _ _ (λ_=>trivial) ?_
      clear hK K
      try simp only [Act.put,xA,xB,xC]
      refine zab (by kernel_rfl) ?_ _
      go_wp2
      exact ⟨⟨2,by omega,rfl,h1⟩,by simp [intOf]⟩
  ·go_upto_region 4 with fail
   have HQ:=hid (H.out.sw 55 3 wr.drew (H.out.drew _ _ HS.out) rfl)
   refine zac (S:=λ_=>True) (st:=14) (by kernel_rfl) ?_
   refine tqG 0 ⟨some 14,_,_,_,_,none⟩ (λ_=>trivial) ?_
   simp only [Act.put,xA,xB,xC]
   refine tqG 1 ⟨some 15,_,_,_,_,none⟩ (λ_=>trivial) ?_
   simp only [Act.put,xA,xB,xC]
   refine tqG 2 ⟨some 16,_,_,_,_,none⟩ (λ_=>trivial) ?_
   simp only [Act.put,xA,xB,xC]
   refine tqG 3 ⟨some 17,_,_,_,_,none⟩ (λ_=>trivial) ?_
   simp only [Act.put,xA,xB,xC]
   refine tqG 4 ⟨some 18,_,_,_,_,none⟩ (λ_=>trivial) ?_
   simp only [Act.put,xA,xB,xC]
   refine tqG 5 ⟨some 19,_,_,_,_,none⟩ (λ_=>trivial) ?_
   simp only [Act.put,xA,xB,xC]
   refine tqG 6 ⟨some 20,_,_,_,_,none⟩ (λ_=>trivial) ?_
   simp only [Act.put,xA,xB,xC]
   refine tqG 7 ⟨some 21,_,_,_,_,none⟩ (λ_=>trivial) ?_
   simp only [Act.put,xA,xB,xC]
   refine tqG 8 ⟨some 22,_,_,_,_,none⟩ (λ_=>trivial) ?_
   simp only [Act.put,xA,xB,xC]
   refine tqG 9 ⟨some 23,_,_,_,_,none⟩ (λ_=>trivial) ?_
   simp only [Act.put,xA,xB,xC]
   refine tqG 11 ⟨some 25,_,_,_,_,none⟩ (λ_=>trivial) ?_
   simp only [Act.put,xA,xB,xC]
   refine tqG 12 ⟨some 26,_,_,_,_,none⟩ (λ_=>trivial) ?_
   simp only [Act.put,xA,xB,xC]
   refine tqG 13 ⟨some 27,_,_,_,_,none⟩ (λ_=>trivial) ?_
   simp only [Act.put,xA,xB,xC]
   refine zaa (i:=10) (o:=⟨some 24,_,_,_,_,none⟩) (by kernel_rfl) rfl (λK hK=>?_)
   go_simp
   refine hK.out _ _ (λ_=>trivial) ?_
   clear hK K
   try simp only [Act.put,xA,xB,xC]
   refine zaa (i:=14) (o:=⟨some 28,_,_,_,_,none⟩) (by kernel_rfl) rfl (λK hK=>?_)
   go_simp
   refine HQ.out.mono ?_
   rintro e w1 (⟨rfl,h1⟩|⟨rfl,h1⟩)
   ·exact ⟨rfl,Or.inl ⟨rfl,h1⟩⟩
   ·refine hK.out _ _ (λ_=>trivial) ?_
    clear hK K
    try simp only [Act.put,xA,xB,xC]
    refine zab (by kernel_rfl) ?_ _
    have HS:=hid h1
    clear h1 HQ
    go_upto_region 5 with fail
    have HQ:=hid (H.out.sb 58 1 w1.drew (H.out.drew _ _ HS.out) rfl)
    refine zac (S:=λ_=>True) (st:=8) (by kernel_rfl) ?_
    refine tqG 0 ⟨some 29,_,_,_,_,none⟩ (λ_=>trivial) ?_
    simp only [Act.put,xA,xB,xC]
    refine tqG 1 ⟨some 30,_,_,_,_,none⟩ (λ_=>trivial) ?_
    simp only [Act.put,xA,xB,xC]
    refine tqG 2 ⟨some 31,_,_,_,_,none⟩ (λ_=>trivial) ?_
    simp only [Act.put,xA,xB,xC]
    refine tqG 3 ⟨some 32,_,_,_,_,none⟩ (λ_=>trivial) ?_
    simp only [Act.put,xA,xB,xC]
    refine tqG 5 ⟨some 34,_,_,_,_,none⟩ (λ_=>trivial) ?_
    simp only [Act.put,xA,xB,xC]
    refine tqG 6 ⟨some 35,_,_,_,_,none⟩ (λ_=>trivial) ?_
    simp only [Act.put,xA,xB,xC]
    refine tqG 7 ⟨some 36,_,_,_,_,none⟩ (λ_=>trivial) ?_
    simp only [Act.put,xA,xB,xC]
    refine zaa (i:=4) (o:=⟨some 33,_,_,_,_,none⟩) (by kernel_rfl) rfl (λK hK=>?_)
    go_simp
    refine hK.out _ _ (λ_=>trivial) ?_
    clear hK K
    try simp only [Act.put,xA,xB,xC]
    refine zaa (i:=8) (o:=⟨some 37,_,_,_,_,none⟩) (by kernel_rfl) rfl (λK hK=>?_)
    go_simp
    refine HQ.out.mono ?_
    rintro e w2 (⟨rfl,h1⟩|⟨rfl,h1⟩)
    ·exact ⟨rfl,Or.inl ⟨rfl,h1⟩⟩
    ·refine hK.out _ _ (λ_=>trivial) ?_
     clear hK K
     try simp only [Act.put,xA,xB,xC]
     refine zab (by kernel_rfl) ?_ _
     have HS:=hid h1
     clear h1 HQ
     go_upto_region 6 with fail
     have HQ:=hid (H.out.so 59 1 w2.drew (H.out.drew _ _ HS.out) rfl)
     refine zac (S:=λ_=>True) (st:=8) (by kernel_rfl) ?_
     refine tqG 0 ⟨some 38,_,_,_,_,none⟩ (λ_=>trivial) ?_
     simp only [Act.put,xA,xB,xC]
     refine tqG 1 ⟨some 39,_,_,_,_,none⟩ (λ_=>trivial) ?_
     simp only [Act.put,xA,xB,xC]
     refine tqG 2 ⟨some 40,_,_,_,_,none⟩ (λ_=>trivial) ?_
     simp only [Act.put,xA,xB,xC]
     refine tqG 3 ⟨some 41,_,_,_,_,none⟩ (λ_=>trivial) ?_
     simp only [Act.put,xA,xB,xC]
     refine tqG 5 ⟨some 43,_,_,_,_,none⟩ (λ_=>trivial) ?_
     simp only [Act.put,xA,xB,xC]
     refine tqG 6 ⟨some 44,_,_,_,_,none⟩ (λ_=>trivial) ?_
     simp only [Act.put,xA,xB,xC]
     refine tqG 7 ⟨some 45,_,_,_,_,none⟩ (λ_=>trivial) ?_
     simp only [Act.put,xA,xB,xC]
     refine zaa (i:=4) (o:=⟨some 42,_,_,_,_,none⟩) (by kernel_rfl) rfl (λK hK=>?_)
     go_simp
     refine hK.out _ _ (λ_=>trivial) ?_
     clear hK K
     try simp only [Act.put,xA,xB,xC]
     refine zaa (i:=8) (o:=⟨some 46,_,_,_,_,none⟩) (by kernel_rfl) rfl (λK hK=>?_)
     go_simp
     refine HQ.out.mono ?_
     rintro e w1 (⟨rfl,h1⟩|⟨rfl,h1⟩)
     ·exact ⟨rfl,Or.inl ⟨rfl,h1⟩⟩
     ·refine hK.out _ _ (λ_=>trivial) ?_
      clear hK K
      try simp only [Act.put,xA,xB,xC]
      refine zab (by kernel_rfl) ?_ _
      go_wp2
      exact ⟨⟨3,by omega,rfl,h1⟩,by simp [intOf]⟩
  ·go_upto_region 8 with fail
   have HQ:=hid (H.out.sn 60 1 wr.drew (H.out.drew _ _ HS.out) rfl)
   refine zac (S:=λ_=>True) (st:=8) (by kernel_rfl) ?_
   refine tqG 0 ⟨some 48,_,_,_,_,none⟩ (λ_=>trivial) ?_
   simp only [Act.put,xA,xB,xC]
   refine tqG 1 ⟨some 49,_,_,_,_,none⟩ (λ_=>trivial) ?_
   simp only [Act.put,xA,xB,xC]
   refine tqG 2 ⟨some 50,_,_,_,_,none⟩ (λ_=>trivial) ?_
   simp only [Act.put,xA,xB,xC]
   refine tqG 3 ⟨some 51,_,_,_,_,none⟩ (λ_=>trivial) ?_
   simp only [Act.put,xA,xB,xC]
   refine tqG 5 ⟨some 53,_,_,_,_,none⟩ (λ_=>trivial) ?_
   simp only [Act.put,xA,xB,xC]
   refine tqG 6 ⟨some 54,_,_,_,_,none⟩ (λ_=>trivial) ?_
   simp only [Act.put,xA,xB,xC]
   refine tqG 7 ⟨some 55,_,_,_,_,none⟩ (λ_=>trivial) ?_
   simp only [Act.put,xA,xB,xC]
   refine zaa (i:=4) (o:=⟨some 52,_,_,_,_,none⟩) (by kernel_rfl) rfl (λK hK=>?_)
   go_simp
   refine hK.out _ _ (λ_=>trivial) ?_
   clear hK K
   try simp only [Act.put,xA,xB,xC]
   refine zaa (i:=8) (o:=⟨some 56,_,_,_,_,none⟩) (by kernel_rfl) rfl (λK hK=>?_)
   go_simp
   refine HQ.out.mono ?_
   rintro e w1 (⟨rfl,h1⟩|⟨rfl,h1⟩)
   ·exact ⟨rfl,Or.inl ⟨rfl,h1⟩⟩
   ·refine hK.out _ _ (λ_=>trivial) ?_
    clear hK K
    try simp only [Act.put,xA,xB,xC]
    refine zab (by kernel_rfl) ?_ _
    go_end0
    exact Or.inr ⟨rfl,h1⟩
end
end Go.Proofs.YtbennamieealbaaGreatDoor
