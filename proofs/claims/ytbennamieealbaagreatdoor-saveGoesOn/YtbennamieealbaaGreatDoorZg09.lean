/-
  Parts of a proof, joined.
-/
import Derived.Test.YtbennamieealbaaGreatDoorZg01
import Derived.Test.YtbennamieealbaaGreatDoorZg08
set_option linter.unusedVariables false
set_option maxRecDepth 100000
set_option maxHeartbeats 1600000
namespace Go.Proofs.YtbennamieealbaaGreatDoor
open Go.ChangeShapes Go.WideShapes Go.ChangeAt Go.RowKit
def ptrs (m:Nat) (l:List Nat):List Value:=l.map (λi=>pt m i)
def Stp (St:Nat->World->Prop) (No:World->Prop) (n:Nat) (e:Ending) (w:World):Prop:=(e=tornE/\No w) \/ (e = .returned (.tuple #[])/\St n w)
structure Car (T : TypeId) (g m fb fo fw fn fl : Nat) (St : Nat -> World -> Prop) (No : World -> Prop) : Prop where
 drew:∀ n W,St n W->St n W.drew
 eb:∀ a w,(callFunc fb a).run Tryz.prog w = .ok (.enter fb a) w
 eo:∀ a w,(callFunc fo a).run Tryz.prog w = .ok (.enter fo a) w
 ew:∀ a w,(callFunc fw a).run Tryz.prog w = .ok (.enter fw a) w
 en:∀ a w,(callFunc fn a).run Tryz.prog w = .ok (.enter fn a) w
 el:∀ a w,(callFunc fl a).run Tryz.prog w = .ok (.enter fl a) w
 mb:∀ w,(method 553 T (pt g 0) "marquee/save.bytes").run Tryz.prog w = .ok (fb,pt g 0) w
 mo:∀ w,(method 553 T (pt g 0) "marquee/save.bools").run Tryz.prog w = .ok (fo,pt g 0) w
 mw:∀ w,(method 553 T (pt g 0) "marquee/save.words").run Tryz.prog w = .ok (fw,pt g 0) w
 mn:∀ w,(method 553 T (pt g 0) "marquee/save.numbers").run Tryz.prog w = .ok (fn,pt g 0) w
 ml:∀ w,(method 553 T (pt g 0) "marquee/save.lists").run Tryz.prog w = .ok (fl,pt g 0) w
 nb:∀ w,(nilAhead 553 T (pt g 0) "marquee/save.bytes").run Tryz.prog w = .ok (some false) w
 no:∀ w,(nilAhead 553 T (pt g 0) "marquee/save.bools").run Tryz.prog w = .ok (some false) w
 nw:∀ w,(nilAhead 553 T (pt g 0) "marquee/save.words").run Tryz.prog w = .ok (some false) w
 nn:∀ w,(nilAhead 553 T (pt g 0) "marquee/save.numbers").run Tryz.prog w = .ok (some false) w
 nl:∀ w,(nilAhead 553 T (pt g 0) "marquee/save.lists").run Tryz.prog w = .ok (some false) w
 sb:∀ n k W,St n W->(svK.drop n).take k=List.replicate k .u8->Calls Tryz.prog fb #[pt g 0,.slice (some ⟨W.heap.size,0,none⟩) k k] (W.alloc (.cells (ptrs m ((svI.drop n).take k)).toArray 207)) (Stp St No (n+k))
 so:∀ n k W,St n W->(svK.drop n).take k=List.replicate k .bo->Calls Tryz.prog fo #[pt g 0,.slice (some ⟨W.heap.size,0,none⟩) k k] (W.alloc (.cells (ptrs m ((svI.drop n).take k)).toArray 209)) (Stp St No (n+k))
 sw:∀ n k W,St n W->(svK.drop n).take k=List.replicate k .u16->Calls Tryz.prog fw #[pt g 0,.slice (some ⟨W.heap.size,0,none⟩) k k] (W.alloc (.cells (ptrs m ((svI.drop n).take k)).toArray 211)) (Stp St No (n+k))
 sn:∀ n k W,St n W->(svK.drop n).take k=List.replicate k .num->Calls Tryz.prog fn #[pt g 0,.slice (some ⟨W.heap.size,0,none⟩) k k] (W.alloc (.cells (ptrs m ((svI.drop n).take k)).toArray 215)) (Stp St No (n+k))
 sl:∀ W,St 30 W->Calls Tryz.prog fl #[pt g 0,.slice (some ⟨W.heap.size,0,none⟩) 5 5] (W.alloc (.cells (ptrs m ((svI.drop 30).take 5)).toArray 124)) (Stp St No 35)
section
variable {T : TypeId} {g m fb fo fw fn fl : Nat} {St : Nat -> World -> Prop} {No : World -> Prop}
theorem Sv.cpu0 (h:Car T g m fb fo fw fn fl St No) (W:World) (h0:St 0 W):Calls Tryz.prog 120 #[.iface T (pt g 0),pt m 0] W (Stp St No 15):=by
 have eb:=h.eb
 have mb:=h.mb
 have nb:=h.nb
 have eo:=h.eo
 have mo:=h.mo
 have no:=h.no
 have ew:=h.ew
 have mw:=h.mw
 have nw:=h.nw
 have en:=h.en
 have mn:=h.mn
 have nn:=h.nn
 have el:=h.el
 have ml:=h.ml
 have nl:=h.nl
 have H:=hid h
 have H0:=hid h0
 clear h h0
 go_enter Tryz.func120,Tryz.ntmps120
 go_wp2
 go_loopw [5] (λi wr=>∃ j:Nat,j<=8/\i = .int .i64 j/\St (0+j) wr) (λi _=>8-(intOf i).toNat)
 case atStart=>exact ⟨0,by omega,rfl,H0.out⟩
 case round =>
  obtain ⟨j,hj,rfl,hs⟩:=hrel
  have HS:=hid hs
  clear hs
  have hc:j=0 \/ j=1 \/ j=2 \/ j=3 \/ j=4 \/ j=5 \/ j=6 \/ j=7 \/ j=8:=by omega
  rcases hc with rfl|rfl|rfl|rfl|rfl|rfl|rfl|rfl|rfl
  ·go_upto_region 3 with fail
   have HQ:=hid (H.out.sw 0 1 wr.drew (H.out.drew _ _ HS.out) rfl)
   refine zac (S:=λ_=>True) (st:=10) (by kernel_rfl) ?_
   refine tqG 0 ⟨some 8,_,_,_,_,none⟩ (λ_=>trivial) ?_
   simp only [Act.put,xA,xB,xC]
   refine tqG 1 ⟨some 9,_,_,_,_,none⟩ (λ_=>trivial) ?_
   simp only [Act.put,xA,xB,xC]
   refine tqG 2 ⟨some 10,_,_,_,_,none⟩ (λ_=>trivial) ?_
   simp only [Act.put,xA,xB,xC]
   refine tqG 3 ⟨some 11,_,_,_,_,none⟩ (λ_=>trivial) ?_
   simp only [Act.put,xA,xB,xC]
   refine tqG 4 ⟨some 12,_,_,_,_,none⟩ (λ_=>trivial) ?_
   simp only [Act.put,xA,xB,xC]
   refine tqG 5 ⟨some 13,_,_,_,_,none⟩ (λ_=>trivial) ?_
   simp only [Act.put,xA,xB,xC]
   refine tqG 7 ⟨some 15,_,_,_,_,none⟩ (λ_=>trivial) ?_
   simp only [Act.put,xA,xB,xC]
   refine tqG 8 ⟨some 16,_,_,_,_,none⟩ (λ_=>trivial) ?_
   simp only [Act.put,xA,xB,xC]
   refine tqG 9 ⟨some 17,_,_,_,_,none⟩ (λ_=>trivial) ?_
   simp only [Act.put,xA,xB,xC]
   refine zaa (i:=6) (o:=⟨some 14,_,_,_,_,none⟩) (by kernel_rfl) rfl (λK hK=>?_)
   go_simp
   refine hK.out _ _ (λ_=>trivial) ?_
   clear hK K
   try simp only [Act.put,xA,xB,xC]
   refine zaa (i:=10) (o:=⟨some 18,_,_,_,_,none⟩) (by kernel_rfl) rfl (λK hK=>?_)
   go_simp
   refine HQ.out.mono ?_
   rintro e w1 (⟨rfl,h1⟩|⟨rfl,h1⟩)
   ·exact ⟨rfl,Or.inl ⟨rfl,h1⟩⟩
   ·refine hK.out _ _ (λ_=>trivial) ?_
    clear hK K
    try simp only [Act.put,xA,xB,xC]
    refine zab (by kernel_rfl) ?_ _
    go_wp2
    exact ⟨⟨1,by omega,rfl,h1⟩,by simp [intOf]⟩
  ·go_upto_region 3 with fail
   have HQ:=hid (H.out.sw 1 1 wr.drew (H.out.drew _ _ HS.out) rfl)
   refine zac (S:=λ_=>True) (st:=10) (by kernel_rfl) ?_
   refine tqG 0 ⟨some 8,_,_,_,_,none⟩ (λ_=>trivial) ?_
   simp only [Act.put,xA,xB,xC]
   refine tqG 1 ⟨some 9,_,_,_,_,none⟩ (λ_=>trivial) ?_
   simp only [Act.put,xA,xB,xC]
   refine tqG 2 ⟨some 10,_,_,_,_,none⟩ (λ_=>trivial) ?_
   simp only [Act.put,xA,xB,xC]
   refine tqG 3 ⟨some 11,_,_,_,_,none⟩ (λ_=>trivial) ?_
   simp only [Act.put,xA,xB,xC]
   refine tqG 4 ⟨some 12,_,_,_,_,none⟩ (λ_=>trivial) ?_
   simp only [Act.put,xA,xB,xC]
   refine tqG 5 ⟨some 13,_,_,_,_,none⟩ (λ_=>trivial) ?_
   simp only [Act.put,xA,xB,xC]
   refine tqG 7 ⟨some 15,_,_,_,_,none⟩ (λ_=>trivial) ?_
   simp only [Act.put,xA,xB,xC]
   refine tqG 8 ⟨some 16,_,_,_,_,none⟩ (λ_=>trivial) ?_
   simp only [Act.put,xA,xB,xC]
   refine tqG 9 ⟨some 17,_,_,_,_,none⟩ (λ_=>trivial) ?_
   simp only [Act.put,xA,xB,xC]
   refine zaa (i:=6) (o:=⟨some 14,_,_,_,_,none⟩) (by kernel_rfl) rfl (λK hK=>?_)
   go_simp
   refine hK.out _ _ (λ_=>trivial) ?_
   clear hK K
   try simp only [Act.put,xA,xB,xC]
   refine zaa (i:=10) (o:=⟨some 18,_,_,_,_,none⟩) (by kernel_rfl) rfl (λK hK=>?_)
   go_simp
   refine HQ.out.mono ?_
   rintro e w1 (⟨rfl,h1⟩|⟨rfl,h1⟩)
   ·exact ⟨rfl,Or.inl ⟨rfl,h1⟩⟩
   ·refine hK.out _ _ (λ_=>trivial) ?_
    clear hK K
    try simp only [Act.put,xA,xB,xC]
    refine zab (by kernel_rfl) ?_ _
    go_wp2
    exact ⟨⟨2,by omega,rfl,h1⟩,by simp [intOf]⟩
  ·go_upto_region 3 with fail
   have HQ:=hid (H.out.sw 2 1 wr.drew (H.out.drew _ _ HS.out) rfl)
   refine zac (S:=λ_=>True) (st:=10) (by kernel_rfl) ?_
   refine tqG 0 ⟨some 8,_,_,_,_,none⟩ (λ_=>trivial) ?_
   simp only [Act.put,xA,xB,xC]
   refine tqG 1 ⟨some 9,_,_,_,_,none⟩ (λ_=>trivial) ?_
   simp only [Act.put,xA,xB,xC]
   refine tqG 2 ⟨some 10,_,_,_,_,none⟩ (λ_=>trivial) ?_
   simp only [Act.put,xA,xB,xC]
   refine tqG 3 ⟨some 11,_,_,_,_,none⟩ (λ_=>trivial) ?_
   simp only [Act.put,xA,xB,xC]
   refine tqG 4 ⟨some 12,_,_,_,_,none⟩ (λ_=>trivial) ?_
   simp only [Act.put,xA,xB,xC]
   refine tqG 5 ⟨some 13,_,_,_,_,none⟩ (λ_=>trivial) ?_
   simp only [Act.put,xA,xB,xC]
   refine tqG 7 ⟨some 15,_,_,_,_,none⟩ (λ_=>trivial) ?_
   simp only [Act.put,xA,xB,xC]
   refine tqG 8 ⟨some 16,_,_,_,_,none⟩ (λ_=>trivial) ?_
   simp only [Act.put,xA,xB,xC]
   refine tqG 9 ⟨some 17,_,_,_,_,none⟩ (λ_=>trivial) ?_
   simp only [Act.put,xA,xB,xC]
   refine zaa (i:=6) (o:=⟨some 14,_,_,_,_,none⟩) (by kernel_rfl) rfl (λK hK=>?_)
   go_simp
   refine hK.out _ _ (λ_=>trivial) ?_
   clear hK K
   try simp only [Act.put,xA,xB,xC]
   refine zaa (i:=10) (o:=⟨some 18,_,_,_,_,none⟩) (by kernel_rfl) rfl (λK hK=>?_)
   go_simp
   refine HQ.out.mono ?_
   rintro e w1 (⟨rfl,h1⟩|⟨rfl,h1⟩)
   ·exact ⟨rfl,Or.inl ⟨rfl,h1⟩⟩
   ·refine hK.out _ _ (λ_=>trivial) ?_
    clear hK K
    try simp only [Act.put,xA,xB,xC]
    refine zab (by kernel_rfl) ?_ _
    go_wp2
    exact ⟨⟨3,by omega,rfl,h1⟩,by simp [intOf]⟩
  ·go_upto_region 3 with fail
   have HQ:=hid (H.out.sw 3 1 wr.drew (H.out.drew _ _ HS.out) rfl)
   refine zac (S:=λ_=>True) (st:=10) (by kernel_rfl) ?_
   refine tqG 0 ⟨some 8,_,_,_,_,none⟩ (λ_=>trivial) ?_
   simp only [Act.put,xA,xB,xC]
   refine tqG 1 ⟨some 9,_,_,_,_,none⟩ (λ_=>trivial) ?_
   simp only [Act.put,xA,xB,xC]
   refine tqG 2 ⟨some 10,_,_,_,_,none⟩ (λ_=>trivial) ?_
   simp only [Act.put,xA,xB,xC]
   refine tqG 3 ⟨some 11,_,_,_,_,none⟩ (λ_=>trivial) ?_
   simp only [Act.put,xA,xB,xC]
   refine tqG 4 ⟨some 12,_,_,_,_,none⟩ (λ_=>trivial) ?_
   simp only [Act.put,xA,xB,xC]
   refine tqG 5 ⟨some 13,_,_,_,_,none⟩ (λ_=>trivial) ?_
   simp only [Act.put,xA,xB,xC]
   refine tqG 7 ⟨some 15,_,_,_,_,none⟩ (λ_=>trivial) ?_
   simp only [Act.put,xA,xB,xC]
   refine tqG 8 ⟨some 16,_,_,_,_,none⟩ (λ_=>trivial) ?_
   simp only [Act.put,xA,xB,xC]
   refine tqG 9 ⟨some 17,_,_,_,_,none⟩ (λ_=>trivial) ?_
   simp only [Act.put,xA,xB,xC]
   refine zaa (i:=6) (o:=⟨some 14,_,_,_,_,none⟩) (by kernel_rfl) rfl (λK hK=>?_)
   go_simp
   refine hK.out _ _ (λ_=>trivial) ?_
   clear hK K
   try simp only [Act.put,xA,xB,xC]
   refine zaa (i:=10) (o:=⟨some 18,_,_,_,_,none⟩) (by kernel_rfl) rfl (λK hK=>?_)
   go_simp
   refine HQ.out.mono ?_
   rintro e w1 (⟨rfl,h1⟩|⟨rfl,h1⟩)
   ·exact ⟨rfl,Or.inl ⟨rfl,h1⟩⟩
   ·refine hK.out _ _ (λ_=>trivial) ?_
    clear hK K
    try simp only [Act.put,xA,xB,xC]
    refine zab (by kernel_rfl) ?_ _
    go_wp2
    exact ⟨⟨4,by omega,rfl,h1⟩,by simp [intOf]⟩
  ·go_upto_region 3 with fail
   have HQ:=hid (H.out.sw 4 1 wr.drew (H.out.drew _ _ HS.out) rfl)
   refine zac (S:=λ_=>True) (st:=10) (by kernel_rfl) ?_
   refine tqG 0 ⟨some 8,_,_,_,_,none⟩ (λ_=>trivial) ?_
   simp only [Act.put,xA,xB,xC]
   refine tqG 1 ⟨some 9,_,_,_,_,none⟩ (λ_=>trivial) ?_
   simp only [Act.put,xA,xB,xC]
   refine tqG 2 ⟨some 10,_,_,_,_,none⟩ (λ_=>trivial) ?_
   simp only [Act.put,xA,xB,xC]
   refine tqG 3 ⟨some 11,_,_,_,_,none⟩ (λ_=>trivial) ?_
   simp only [Act.put,xA,xB,xC]
   refine tqG 4 ⟨some 12,_,_,_,_,none⟩ (λ_=>trivial) ?_
   simp only [Act.put,xA,xB,xC]
   refine tqG 5 ⟨some 13,_,_,_,_,none⟩ (λ_=>trivial) ?_
   simp only [Act.put,xA,xB,xC]
   refine tqG 7 ⟨some 15,_,_,_,_,none⟩ (λ_=>trivial) ?_
   simp only [Act.put,xA,xB,xC]
   refine tqG 8 ⟨some 16,_,_,_,_,none⟩ (λ_=>trivial) ?_
   simp only [Act.put,xA,xB,xC]
   refine tqG 9 ⟨some 17,_,_,_,_,none⟩ (λ_=>trivial) ?_
   simp only [Act.put,xA,xB,xC]
   refine zaa (i:=6) (o:=⟨some 14,_,_,_,_,none⟩) (by kernel_rfl) rfl (λK hK=>?_)
   go_simp
   refine hK.out _ _ (λ_=>trivial) ?_
   clear hK K
   try simp only [Act.put,xA,xB,xC]
   refine zaa (i:=10) (o:=⟨some 18,_,_,_,_,none⟩) (by kernel_rfl) rfl (λK hK=>?_)
   go_simp
   refine HQ.out.mono ?_
   rintro e w1 (⟨rfl,h1⟩|⟨rfl,h1⟩)
   ·exact ⟨rfl,Or.inl ⟨rfl,h1⟩⟩
   ·refine hK.out _ _ (λ_=>trivial) ?_
    clear hK K
    try simp only [Act.put,xA,xB,xC]
    refine zab (by kernel_rfl) ?_ _
    go_wp2
    exact ⟨⟨5,by omega,rfl,h1⟩,by simp [intOf]⟩
  ·go_upto_region 3 with fail
   have HQ:=hid (H.out.sw 5 1 wr.drew (H.out.drew _ _ HS.out) rfl)
   refine zac (S:=λ_=>True) (st:=10) (by kernel_rfl) ?_
   refine tqG 0 ⟨some 8,_,_,_,_,none⟩ (λ_=>trivial) ?_
   simp only [Act.put,xA,xB,xC]
   refine tqG 1 ⟨some 9,_,_,_,_,none⟩ (λ_=>trivial) ?_
   simp only [Act.put,xA,xB,xC]
   refine tqG 2 ⟨some 10,_,_,_,_,none⟩ (λ_=>trivial) ?_
   simp only [Act.put,xA,xB,xC]
   refine tqG 3 ⟨some 11,_,_,_,_,none⟩ (λ_=>trivial) ?_
   simp only [Act.put,xA,xB,xC]
   refine tqG 4 ⟨some 12,_,_,_,_,none⟩ (λ_=>trivial) ?_
   simp only [Act.put,xA,xB,xC]
   refine tqG 5 ⟨some 13,_,_,_,_,none⟩ (λ_=>trivial) ?_
   simp only [Act.put,xA,xB,xC]
   refine tqG 7 ⟨some 15,_,_,_,_,none⟩ (λ_=>trivial) ?_
   simp only [Act.put,xA,xB,xC]
   refine tqG 8 ⟨some 16,_,_,_,_,none⟩ (λ_=>trivial) ?_
   simp only [Act.put,xA,xB,xC]
   refine tqG 9 ⟨some 17,_,_,_,_,none⟩ (λ_=>trivial) ?_
   simp only [Act.put,xA,xB,xC]
   refine zaa (i:=6) (o:=⟨some 14,_,_,_,_,none⟩) (by kernel_rfl) rfl (λK hK=>?_)
   go_simp
   refine hK.out _ _ (λ_=>trivial) ?_
   clear hK K
   try simp only [Act.put,xA,xB,xC]
   refine zaa (i:=10) (o:=⟨some 18,_,_,_,_,none⟩) (by kernel_rfl) rfl (λK hK=>?_)
   go_simp
   refine HQ.out.mono ?_
   rintro e w1 (⟨rfl,h1⟩|⟨rfl,h1⟩)
   ·exact ⟨rfl,Or.inl ⟨rfl,h1⟩⟩
   ·refine hK.out _ _ (λ_=>trivial) ?_
    clear hK K
    try simp only [Act.put,xA,xB,xC]
    refine zab (by kernel_rfl) ?_ _
    go_wp2
    exact ⟨⟨6,by omega,rfl,h1⟩,by simp [intOf]⟩
  ·go_upto_region 3 with fail
   have HQ:=hid (H.out.sw 6 1 wr.drew (H.out.drew _ _ HS.out) rfl)
   refine zac (S:=λ_=>True) (st:=10) (by kernel_rfl) ?_
   refine tqG 0 ⟨some 8,_,_,_,_,none⟩ (λ_=>trivial) ?_
   simp only [Act.put,xA,xB,xC]
   refine tqG 1 ⟨some 9,_,_,_,_,none⟩ (λ_=>trivial) ?_
   simp only [Act.put,xA,xB,xC]
   refine tqG 2 ⟨some 10,_,_,_,_,none⟩ (λ_=>trivial) ?_
   simp only [Act.put,xA,xB,xC]
   refine tqG 3 ⟨some 11,_,_,_,_,none⟩ (λ_=>trivial) ?_
   simp only [Act.put,xA,xB,xC]
   refine tqG 4 ⟨some 12,_,_,_,_,none⟩ (λ_=>trivial) ?_
   simp only [Act.put,xA,xB,xC]
   refine tqG 5 ⟨some 13,_,_,_,_,none⟩ (λ_=>trivial) ?_
   simp only [Act.put,xA,xB,xC]
   refine tqG 7 ⟨some 15,_,_,_,_,none⟩ (λ_=>trivial) ?_
   simp only [Act.put,xA,xB,xC]
   refine tqG 8 ⟨some 16,_,_,_,_,none⟩ (λ_=>trivial) ?_
   simp only [Act.put,xA,xB,xC]
   refine tqG 9 ⟨some 17,_,_,_,_,none⟩ (λ_=>trivial) ?_
   simp only [Act.put,xA,xB,xC]
   refine zaa (i:=6) (o:=⟨some 14,_,_,_,_,none⟩) (by kernel_rfl) rfl (λK hK=>?_)
   go_simp
   refine hK.out _ _ (λ_=>trivial) ?_
   clear hK K
   try simp only [Act.put,xA,xB,xC]
   refine zaa (i:=10) (o:=⟨some 18,_,_,_,_,none⟩) (by kernel_rfl) rfl (λK hK=>?_)
   go_simp
   refine HQ.out.mono ?_
   rintro e w1 (⟨rfl,h1⟩|⟨rfl,h1⟩)
   ·exact ⟨rfl,Or.inl ⟨rfl,h1⟩⟩
   ·refine hK.out _ _ (λ_=>trivial) ?_
    clear hK K
    try simp only [Act.put,xA,xB,xC]
    refine zab (by kernel_rfl) ?_ _
    go_wp2
    exact ⟨⟨7,by omega,rfl,h1⟩,by simp [intOf]⟩
  ·go_upto_region 3 with fail
   have HQ:=hid (H.out.sw 7 1 wr.drew (H.out.drew _ _ HS.out) rfl)
   refine zac (S:=λ_=>True) (st:=10) (by kernel_rfl) ?_
   refine tqG 0 ⟨some 8,_,_,_,_,none⟩ (λ_=>trivial) ?_
   simp only [Act.put,xA,xB,xC]
   refine tqG 1 ⟨some 9,_,_,_,_,none⟩ (λ_=>trivial) ?_
   simp only [Act.put,xA,xB,xC]
   refine tqG 2 ⟨some 10,_,_,_,_,none⟩ (λ_=>trivial) ?_
   simp only [Act.put,xA,xB,xC]
   refine tqG 3 ⟨some 11,_,_,_,_,none⟩ (λ_=>trivial) ?_
   simp only [Act.put,xA,xB,xC]
   refine tqG 4 ⟨some 12,_,_,_,_,none⟩ (λ_=>trivial) ?_
   simp only [Act.put,xA,xB,xC]
   refine tqG 5 ⟨some 13,_,_,_,_,none⟩ (λ_=>trivial) ?_
   simp only [Act.put,xA,xB,xC]
   refine tqG 7 ⟨some 15,_,_,_,_,none⟩ (λ_=>trivial) ?_
   simp only [Act.put,xA,xB,xC]
   refine tqG 8 ⟨some 16,_,_,_,_,none⟩ (λ_=>trivial) ?_
   simp only [Act.put,xA,xB,xC]
   refine tqG 9 ⟨some 17,_,_,_,_,none⟩ (λ_=>trivial) ?_
   simp only [Act.put,xA,xB,xC]
   refine zaa (i:=6) (o:=⟨some 14,_,_,_,_,none⟩) (by kernel_rfl) rfl (λK hK=>?_)
   go_simp
   refine hK.out _ _ (λ_=>trivial) ?_
   clear hK K
   try simp only [Act.put,xA,xB,xC]
   refine zaa (i:=10) (o:=⟨some 18,_,_,_,_,none⟩) (by kernel_rfl) rfl (λK hK=>?_)
   go_simp
   refine HQ.out.mono ?_
   rintro e w1 (⟨rfl,h1⟩|⟨rfl,h1⟩)
   ·exact ⟨rfl,Or.inl ⟨rfl,h1⟩⟩
   ·refine hK.out _ _ (λ_=>trivial) ?_
    clear hK K
    try simp only [Act.put,xA,xB,xC]
    refine zab (by kernel_rfl) ?_ _
    go_wp2
    exact ⟨⟨8,by omega,rfl,h1⟩,by simp [intOf]⟩
  ·go_upto_region 5 with fail
   have HQ:=hid (H.out.sw 8 1 wr.drew (H.out.drew _ _ HS.out) rfl)
   refine zac (S:=λ_=>True) (st:=8) (by kernel_rfl) ?_
   refine tqG 0 ⟨some 20,_,_,_,_,none⟩ (λ_=>trivial) ?_
   simp only [Act.put,xA,xB,xC]
   refine tqG 1 ⟨some 21,_,_,_,_,none⟩ (λ_=>trivial) ?_
   simp only [Act.put,xA,xB,xC]
   refine tqG 2 ⟨some 22,_,_,_,_,none⟩ (λ_=>trivial) ?_
   simp only [Act.put,xA,xB,xC]
   refine tqG 3 ⟨some 23,_,_,_,_,none⟩ (λ_=>trivial) ?_
   simp only [Act.put,xA,xB,xC]
   refine tqG 5 ⟨some 25,_,_,_,_,none⟩ (λ_=>trivial) ?_
   simp only [Act.put,xA,xB,xC]
   refine tqG 6 ⟨some 26,_,_,_,_,none⟩ (λ_=>trivial) ?_
   simp only [Act.put,xA,xB,xC]
   refine tqG 7 ⟨some 27,_,_,_,_,none⟩ (λ_=>trivial) ?_
   simp only [Act.put,xA,xB,xC]
   refine zaa (i:=4) (o:=⟨some 24,_,_,_,_,none⟩) (by kernel_rfl) rfl (λK hK=>?_)
   go_simp
   refine hK.out _ _ (λ_=>trivial) ?_
   clear hK K
   try simp only [Act.put,xA,xB,xC]
   refine zaa (i:=8) (o:=⟨some 28,_,_,_,_,none⟩) (by kernel_rfl) rfl (λK hK=>?_)
   go_simp
   refine HQ.out.mono ?_
   rintro e w1 (⟨rfl,h1⟩|⟨rfl,h1⟩)
   ·exact ⟨rfl,Or.inl ⟨rfl,h1⟩⟩
   ·refine hK.out _ _ (λ_=>trivial) ?_
    clear hK K
    try simp only [Act.put,xA,xB,xC]
    refine zab (by kernel_rfl) ?_ _
    have HS:=hid h1
    clear h1
    go_upto_region 6 with fail
    have HQ:=hid (H.out.so 9 6 w1.drew (H.out.drew _ _ HS.out) rfl)
    refine zac (S:=λ_=>True) (st:=23) (by kernel_rfl) ?_
    refine tqG 0 ⟨some 29,_,_,_,_,none⟩ (λ_=>trivial) ?_
    simp only [Act.put,xA,xB,xC]
    refine tqG 1 ⟨some 30,_,_,_,_,none⟩ (λ_=>trivial) ?_
    simp only [Act.put,xA,xB,xC]
    refine tqG 2 ⟨some 31,_,_,_,_,none⟩ (λ_=>trivial) ?_
    simp only [Act.put,xA,xB,xC]
    refine tqG 3 ⟨some 32,_,_,_,_,none⟩ (λ_=>trivial) ?_
    simp only [Act.put,xA,xB,xC]
    refine tqG 4 ⟨some 33,_,_,_,_,none⟩ (λ_=>trivial) ?_
    simp only [Act.put,xA,xB,xC]
    refine tqG 5 ⟨some 34,_,_,_,_,none⟩ (λ_=>trivial) ?_
    simp only [Act.put,xA,xB,xC]
    refine tqG 6 ⟨some 35,_,_,_,_,none⟩ (λ_=>trivial) ?_
    simp only [Act.put,xA,xB,xC]
    refine tqG 7 ⟨some 36,_,_,_,_,none⟩ (λ_=>trivial) ?_
    simp only [Act.put,xA,xB,xC]
    refine tqG 8 ⟨some 37,_,_,_,_,none⟩ (λ_=>trivial) ?_
    simp only [Act.put,xA,xB,xC]
    refine tqG 9 ⟨some 38,_,_,_,_,none⟩ (λ_=>trivial) ?_
    simp only [Act.put,xA,xB,xC]
    refine tqG 10 ⟨some 39,_,_,_,_,none⟩ (λ_=>trivial) ?_
    simp only [Act.put,xA,xB,xC]
    refine tqG 11 ⟨some 40,_,_,_,_,none⟩ (λ_=>trivial) ?_
    simp only [Act.put,xA,xB,xC]
    refine tqG 12 ⟨some 41,_,_,_,_,none⟩ (λ_=>trivial) ?_
    simp only [Act.put,xA,xB,xC]
    refine tqG 13 ⟨some 42,_,_,_,_,none⟩ (λ_=>trivial) ?_
    simp only [Act.put,xA,xB,xC]
    refine tqG 14 ⟨some 43,_,_,_,_,none⟩ (λ_=>trivial) ?_
    simp only [Act.put,xA,xB,xC]
    refine tqG 15 ⟨some 44,_,_,_,_,none⟩ (λ_=>trivial) ?_
    simp only [Act.put,xA,xB,xC]
    refine tqG 16 ⟨some 45,_,_,_,_,none⟩ (λ_=>trivial) ?_
    simp only [Act.put,xA,xB,xC]
    refine tqG 17 ⟨some 46,_,_,_,_,none⟩ (λ_=>trivial) ?_
    simp only [Act.put,xA,xB,xC]
    refine tqG 18 ⟨some 47,_,_,_,_,none⟩ (λ_=>trivial) ?_
    simp only [Act.put,xA,xB,xC]
    refine tqG 20 ⟨some 49,_,_,_,_,none⟩ (λ_=>trivial) ?_
    simp only [Act.put,xA,xB,xC]
    refine tqG 21 ⟨some 50,_,_,_,_,none⟩ (λ_=>trivial) ?_
    simp only [Act.put,xA,xB,xC]
    refine tqG 22 ⟨some 51,_,_,_,_,none⟩ (λ_=>trivial) ?_
    simp only [Act.put,xA,xB,xC]
    refine zaa (i:=19) (o:=⟨some 48,_,_,_,_,none⟩) (by kernel_rfl) rfl (λK hK=>?_)
    go_simp
    refine hK.out _ _ (λ_=>trivial) ?_
    clear hK K
    try simp only [Act.put,xA,xB,xC]
    refine zaa (i:=23) (o:=⟨some 52,_,_,_,_,none⟩) (by kernel_rfl) rfl (λK hK=>?_)
    go_simp
    refine HQ.out.mono ?_
    rintro e w1 (⟨rfl,h1⟩|⟨rfl,h1⟩)
    ·exact ⟨rfl,Or.inl ⟨rfl,h1⟩⟩
    ·refine hK.out _ _ (λ_=>trivial) ?_
     clear hK K
     try simp only [Act.put,xA,xB,xC]
     refine zab (by kernel_rfl) ?_ _
     go_end0
     exact Or.inr ⟨rfl,h1⟩
theorem Sv.cpu15 (h:Car T g m fb fo fw fn fl St No) (W:World) (h0:St 15 W):Calls Tryz.prog 120 #[.iface T (pt g 0),pt m 15] W (Stp St No 30):=by
 have eb:=h.eb
 have mb:=h.mb
 have nb:=h.nb
 have eo:=h.eo
 have mo:=h.mo
 have no:=h.no
 have ew:=h.ew
 have mw:=h.mw
 have nw:=h.nw
 have en:=h.en
 have mn:=h.mn
 have nn:=h.nn
 have el:=h.el
 have ml:=h.ml
 have nl:=h.nl
 have H:=hid h
 have H0:=hid h0
 clear h h0
 go_enter Tryz.func120,Tryz.ntmps120
 go_wp2
 go_loopw [5] (λi wr=>∃ j:Nat,j<=8/\i = .int .i64 j/\St (15+j) wr) (λi _=>8-(intOf i).toNat)
 case atStart=>exact ⟨0,by omega,rfl,H0.out⟩
 case round =>
  obtain ⟨j,hj,rfl,hs⟩:=hrel
  have HS:=hid hs
  clear hs
  have hc:j=0 \/ j=1 \/ j=2 \/ j=3 \/ j=4 \/ j=5 \/ j=6 \/ j=7 \/ j=8:=by omega
  rcases hc with rfl|rfl|rfl|rfl|rfl|rfl|rfl|rfl|rfl
  ·go_upto_region 3 with fail
   have HQ:=hid (H.out.sw 15 1 wr.drew (H.out.drew _ _ HS.out) rfl)
   refine zac (S:=λ_=>True) (st:=10) (by kernel_rfl) ?_
   refine tqG 0 ⟨some 8,_,_,_,_,none⟩ (λ_=>trivial) ?_
   simp only [Act.put,xA,xB,xC]
   refine tqG 1 ⟨some 9,_,_,_,_,none⟩ (λ_=>trivial) ?_
   simp only [Act.put,xA,xB,xC]
   refine tqG 2 ⟨some 10,_,_,_,_,none⟩ (λ_=>trivial) ?_
   simp only [Act.put,xA,xB,xC]
   refine tqG 3 ⟨some 11,_,_,_,_,none⟩ (λ_=>trivial) ?_
   simp only [Act.put,xA,xB,xC]
   refine tqG 4 ⟨some 12,_,_,_,_,none⟩ (λ_=>trivial) ?_
   simp only [Act.put,xA,xB,xC]
   refine tqG 5 ⟨some 13,_,_,_,_,none⟩ (λ_=>trivial) ?_
   simp only [Act.put,xA,xB,xC]
   refine tqG 7 ⟨some 15,_,_,_,_,none⟩ (λ_=>trivial) ?_
   simp only [Act.put,xA,xB,xC]
   refine tqG 8 ⟨some 16,_,_,_,_,none⟩ (λ_=>trivial) ?_
   simp only [Act.put,xA,xB,xC]
   refine tqG 9 ⟨some 17,_,_,_,_,none⟩ (λ_=>trivial) ?_
   simp only [Act.put,xA,xB,xC]
   refine zaa (i:=6) (o:=⟨some 14,_,_,_,_,none⟩) (by kernel_rfl) rfl (λK hK=>?_)
   go_simp
   refine hK.out _ _ (λ_=>trivial) ?_
   clear hK K
   try simp only [Act.put,xA,xB,xC]
   refine zaa (i:=10) (o:=⟨some 18,_,_,_,_,none⟩) (by kernel_rfl) rfl (λK hK=>?_)
   go_simp
   refine HQ.out.mono ?_
   rintro e w1 (⟨rfl,h1⟩|⟨rfl,h1⟩)
   ·exact ⟨rfl,Or.inl ⟨rfl,h1⟩⟩
   ·refine hK.out _ _ (λ_=>trivial) ?_
    clear hK K
    try simp only [Act.put,xA,xB,xC]
    refine zab (by kernel_rfl) ?_ _
    go_wp2
    exact ⟨⟨1,by omega,rfl,h1⟩,by simp [intOf]⟩
  ·go_upto_region 3 with fail
   have HQ:=hid (H.out.sw 16 1 wr.drew (H.out.drew _ _ HS.out) rfl)
   refine zac (S:=λ_=>True) (st:=10) (by kernel_rfl) ?_
   refine tqG 0 ⟨some 8,_,_,_,_,none⟩ (λ_=>trivial) ?_
   simp only [Act.put,xA,xB,xC]
   refine tqG 1 ⟨some 9,_,_,_,_,none⟩ (λ_=>trivial) ?_
   simp only [Act.put,xA,xB,xC]
   refine tqG 2 ⟨some 10,_,_,_,_,none⟩ (λ_=>trivial) ?_
   simp only [Act.put,xA,xB,xC]
   refine tqG 3 ⟨some 11,_,_,_,_,none⟩ (λ_=>trivial) ?_
   simp only [Act.put,xA,xB,xC]
   refine tqG 4 ⟨some 12,_,_,_,_,none⟩ (λ_=>trivial) ?_
   simp only [Act.put,xA,xB,xC]
   refine tqG 5 ⟨some 13,_,_,_,_,none⟩ (λ_=>trivial) ?_
   simp only [Act.put,xA,xB,xC]
   refine tqG 7 ⟨some 15,_,_,_,_,none⟩ (λ_=>trivial) ?_
   simp only [Act.put,xA,xB,xC]
   refine tqG 8 ⟨some 16,_,_,_,_,none⟩ (λ_=>trivial) ?_
   simp only [Act.put,xA,xB,xC]
   refine tqG 9 ⟨some 17,_,_,_,_,none⟩ (λ_=>trivial) ?_
   simp only [Act.put,xA,xB,xC]
   refine zaa (i:=6) (o:=⟨some 14,_,_,_,_,none⟩) (by kernel_rfl) rfl (λK hK=>?_)
   go_simp
   refine hK.out _ _ (λ_=>trivial) ?_
   clear hK K
   try simp only [Act.put,xA,xB,xC]
   refine zaa (i:=10) (o:=⟨some 18,_,_,_,_,none⟩) (by kernel_rfl) rfl (λK hK=>?_)
   go_simp
   refine HQ.out.mono ?_
   rintro e w1 (⟨rfl,h1⟩|⟨rfl,h1⟩)
   ·exact ⟨rfl,Or.inl ⟨rfl,h1⟩⟩
   ·refine hK.out _ _ (λ_=>trivial) ?_
    clear hK K
    try simp only [Act.put,xA,xB,xC]
    refine zab (by kernel_rfl) ?_ _
    go_wp2
    exact ⟨⟨2,by omega,rfl,h1⟩,by simp [intOf]⟩
  ·go_upto_region 3 with fail
   have HQ:=hid (H.out.sw 17 1 wr.drew (H.out.drew _ _ HS.out) rfl)
   refine zac (S:=λ_=>True) (st:=10) (by kernel_rfl) ?_
   refine tqG 0 ⟨some 8,_,_,_,_,none⟩ (λ_=>trivial) ?_
   simp only [Act.put,xA,xB,xC]
   refine tqG 1 ⟨some 9,_,_,_,_,none⟩ (λ_=>trivial) ?_
   simp only [Act.put,xA,xB,xC]
   refine tqG 2 ⟨some 10,_,_,_,_,none⟩ (λ_=>trivial) ?_
   simp only [Act.put,xA,xB,xC]
   refine tqG 3 ⟨some 11,_,_,_,_,none⟩ (λ_=>trivial) ?_
   simp only [Act.put,xA,xB,xC]
   refine tqG 4 ⟨some 12,_,_,_,_,none⟩ (λ_=>trivial) ?_
   simp only [Act.put,xA,xB,xC]
   refine tqG 5 ⟨some 13,_,_,_,_,none⟩ (λ_=>trivial) ?_
   simp only [Act.put,xA,xB,xC]
   refine tqG 7 ⟨some 15,_,_,_,_,none⟩ (λ_=>trivial) ?_
   simp only [Act.put,xA,xB,xC]
   refine tqG 8 ⟨some 16,_,_,_,_,none⟩ (λ_=>trivial) ?_
   simp only [Act.put,xA,xB,xC]
   refine tqG 9 ⟨some 17,_,_,_,_,none⟩ (λ_=>trivial) ?_
   simp only [Act.put,xA,xB,xC]
   refine zaa (i:=6) (o:=⟨some 14,_,_,_,_,none⟩) (by kernel_rfl) rfl (λK hK=>?_)
   go_simp
   refine hK.out _ _ (λ_=>trivial) ?_
   clear hK K
   try simp only [Act.put,xA,xB,xC]
   refine zaa (i:=10) (o:=⟨some 18,_,_,_,_,none⟩) (by kernel_rfl) rfl (λK hK=>?_)
   go_simp
   refine HQ.out.mono ?_
   rintro e w1 (⟨rfl,h1⟩|⟨rfl,h1⟩)
   ·exact ⟨rfl,Or.inl ⟨rfl,h1⟩⟩
   ·refine hK.out _ _ (λ_=>trivial) ?_
    clear hK K
    try simp only [Act.put,xA,xB,xC]
    refine zab (by kernel_rfl) ?_ _
    go_wp2
    exact ⟨⟨3,by omega,rfl,h1⟩,by simp [intOf]⟩
  ·go_upto_region 3 with fail
   have HQ:=hid (H.out.sw 18 1 wr.drew (H.out.drew _ _ HS.out) rfl)
   refine zac (S:=λ_=>True) (st:=10) (by kernel_rfl) ?_
   refine tqG 0 ⟨some 8,_,_,_,_,none⟩ (λ_=>trivial) ?_
   simp only [Act.put,xA,xB,xC]
   refine tqG 1 ⟨some 9,_,_,_,_,none⟩ (λ_=>trivial) ?_
   simp only [Act.put,xA,xB,xC]
   refine tqG 2 ⟨some 10,_,_,_,_,none⟩ (λ_=>trivial) ?_
   simp only [Act.put,xA,xB,xC]
   refine tqG 3 ⟨some 11,_,_,_,_,none⟩ (λ_=>trivial) ?_
   simp only [Act.put,xA,xB,xC]
   refine tqG 4 ⟨some 12,_,_,_,_,none⟩ (λ_=>trivial) ?_
   simp only [Act.put,xA,xB,xC]
   refine tqG 5 ⟨some 13,_,_,_,_,none⟩ (λ_=>trivial) ?_
   simp only [Act.put,xA,xB,xC]
   refine tqG 7 ⟨some 15,_,_,_,_,none⟩ (λ_=>trivial) ?_
   simp only [Act.put,xA,xB,xC]
   refine tqG 8 ⟨some 16,_,_,_,_,none⟩ (λ_=>trivial) ?_
   simp only [Act.put,xA,xB,xC]
   refine tqG 9 ⟨some 17,_,_,_,_,none⟩ (λ_=>trivial) ?_
   simp only [Act.put,xA,xB,xC]
   refine zaa (i:=6) (o:=⟨some 14,_,_,_,_,none⟩) (by kernel_rfl) rfl (λK hK=>?_)
   go_simp
   refine hK.out _ _ (λ_=>trivial) ?_
   clear hK K
   try simp only [Act.put,xA,xB,xC]
   refine zaa (i:=10) (o:=⟨some 18,_,_,_,_,none⟩) (by kernel_rfl) rfl (λK hK=>?_)
   go_simp
   refine HQ.out.mono ?_
   rintro e w1 (⟨rfl,h1⟩|⟨rfl,h1⟩)
   ·exact ⟨rfl,Or.inl ⟨rfl,h1⟩⟩
   ·refine hK.out _ _ (λ_=>trivial) ?_
    clear hK K
    try simp only [Act.put,xA,xB,xC]
    refine zab (by kernel_rfl) ?_ _
    go_wp2
    exact ⟨⟨4,by omega,rfl,h1⟩,by simp [intOf]⟩
  ·go_upto_region 3 with fail
   have HQ:=hid (H.out.sw 19 1 wr.drew (H.out.drew _ _ HS.out) rfl)
   refine zac (S:=λ_=>True) (st:=10) (by kernel_rfl) ?_
   refine tqG 0 ⟨some 8,_,_,_,_,none⟩ (λ_=>trivial) ?_
   simp only [Act.put,xA,xB,xC]
   refine tqG 1 ⟨some 9,_,_,_,_,none⟩ (λ_=>trivial) ?_
   simp only [Act.put,xA,xB,xC]
   refine tqG 2 ⟨some 10,_,_,_,_,none⟩ (λ_=>trivial) ?_
   simp only [Act.put,xA,xB,xC]
   refine tqG 3 ⟨some 11,_,_,_,_,none⟩ (λ_=>trivial) ?_
   simp only [Act.put,xA,xB,xC]
   refine tqG 4 ⟨some 12,_,_,_,_,none⟩ (λ_=>trivial) ?_
   simp only [Act.put,xA,xB,xC]
   refine tqG 5 ⟨some 13,_,_,_,_,none⟩ (λ_=>trivial) ?_
   simp only [Act.put,xA,xB,xC]
   refine tqG 7 ⟨some 15,_,_,_,_,none⟩ (λ_=>trivial) ?_
   simp only [Act.put,xA,xB,xC]
   refine tqG 8 ⟨some 16,_,_,_,_,none⟩ (λ_=>trivial) ?_
   simp only [Act.put,xA,xB,xC]
   refine tqG 9 ⟨some 17,_,_,_,_,none⟩ (λ_=>trivial) ?_
   simp only [Act.put,xA,xB,xC]
   refine zaa (i:=6) (o:=⟨some 14,_,_,_,_,none⟩) (by kernel_rfl) rfl (λK hK=>?_)
   go_simp
   refine hK.out _ _ (λ_=>trivial) ?_
   clear hK K
   try simp only [Act.put,xA,xB,xC]
   refine zaa (i:=10) (o:=⟨some 18,_,_,_,_,none⟩) (by kernel_rfl) rfl (λK hK=>?_)
   go_simp
   refine HQ.out.mono ?_
   rintro e w1 (⟨rfl,h1⟩|⟨rfl,h1⟩)
   ·exact ⟨rfl,Or.inl ⟨rfl,h1⟩⟩
   ·refine hK.out _ _ (λ_=>trivial) ?_
    clear hK K
    try simp only [Act.put,xA,xB,xC]
    refine zab (by kernel_rfl) ?_ _
    go_wp2
    exact ⟨⟨5,by omega,rfl,h1⟩,by simp [intOf]⟩
  ·go_upto_region 3 with fail
   have HQ:=hid (H.out.sw 20 1 wr.drew (H.out.drew _ _ HS.out) rfl)
   refine zac (S:=λ_=>True) (st:=10) (by kernel_rfl) ?_
   refine tqG 0 ⟨some 8,_,_,_,_,none⟩ (λ_=>trivial) ?_
   simp only [Act.put,xA,xB,xC]
   refine tqG 1 ⟨some 9,_,_,_,_,none⟩ (λ_=>trivial) ?_
   simp only [Act.put,xA,xB,xC]
   refine tqG 2 ⟨some 10,_,_,_,_,none⟩ (λ_=>trivial) ?_
   simp only [Act.put,xA,xB,xC]
   refine tqG 3 ⟨some 11,_,_,_,_,none⟩ (λ_=>trivial) ?_
   simp only [Act.put,xA,xB,xC]
   refine tqG 4 ⟨some 12,_,_,_,_,none⟩ (λ_=>trivial) ?_
   simp only [Act.put,xA,xB,xC]
   refine tqG 5 ⟨some 13,_,_,_,_,none⟩ (λ_=>trivial) ?_
   simp only [Act.put,xA,xB,xC]
   refine tqG 7 ⟨some 15,_,_,_,_,none⟩ (λ_=>trivial) ?_
   simp only [Act.put,xA,xB,xC]
   refine tqG 8 ⟨some 16,_,_,_,_,none⟩ (λ_=>trivial) ?_
   simp only [Act.put,xA,xB,xC]
   refine tqG 9 ⟨some 17,_,_,_,_,none⟩ (λ_=>trivial) ?_
   simp only [Act.put,xA,xB,xC]
   refine zaa (i:=6) (o:=⟨some 14,_,_,_,_,none⟩) (by kernel_rfl) rfl (λK hK=>?_)
   go_simp
   refine hK.out _ _ (λ_=>trivial) ?_
   clear hK K
   try simp only [Act.put,xA,xB,xC]
   refine zaa (i:=10) (o:=⟨some 18,_,_,_,_,none⟩) (by kernel_rfl) rfl (λK hK=>?_)
   go_simp
   refine HQ.out.mono ?_
   rintro e w1 (⟨rfl,h1⟩|⟨rfl,h1⟩)
   ·exact ⟨rfl,Or.inl ⟨rfl,h1⟩⟩
   ·refine hK.out _ _ (λ_=>trivial) ?_
    clear hK K
    try simp only [Act.put,xA,xB,xC]
    refine zab (by kernel_rfl) ?_ _
    go_wp2
    exact ⟨⟨6,by omega,rfl,h1⟩,by simp [intOf]⟩
  ·go_upto_region 3 with fail
   have HQ:=hid (H.out.sw 21 1 wr.drew (H.out.drew _ _ HS.out) rfl)
   refine zac (S:=λ_=>True) (st:=10) (by kernel_rfl) ?_
   refine tqG 0 ⟨some 8,_,_,_,_,none⟩ (λ_=>trivial) ?_
   simp only [Act.put,xA,xB,xC]
   refine tqG 1 ⟨some 9,_,_,_,_,none⟩ (λ_=>trivial) ?_
   simp only [Act.put,xA,xB,xC]
   refine tqG 2 ⟨some 10,_,_,_,_,none⟩ (λ_=>trivial) ?_
   simp only [Act.put,xA,xB,xC]
   refine tqG 3 ⟨some 11,_,_,_,_,none⟩ (λ_=>trivial) ?_
   simp only [Act.put,xA,xB,xC]
   refine tqG 4 ⟨some 12,_,_,_,_,none⟩ (λ_=>trivial) ?_
   simp only [Act.put,xA,xB,xC]
   refine tqG 5 ⟨some 13,_,_,_,_,none⟩ (λ_=>trivial) ?_
   simp only [Act.put,xA,xB,xC]
   refine tqG 7 ⟨some 15,_,_,_,_,none⟩ (λ_=>trivial) ?_
   simp only [Act.put,xA,xB,xC]
   refine tqG 8 ⟨some 16,_,_,_,_,none⟩ (λ_=>trivial) ?_
   simp only [Act.put,xA,xB,xC]
   refine tqG 9 ⟨some 17,_,_,_,_,none⟩ (λ_=>trivial) ?_
   simp only [Act.put,xA,xB,xC]
   refine zaa (i:=6) (o:=⟨some 14,_,_,_,_,none⟩) (by kernel_rfl) rfl (λK hK=>?_)
   go_simp
   refine hK.out _ _ (λ_=>trivial) ?_
   clear hK K
   try simp only [Act.put,xA,xB,xC]
   refine zaa (i:=10) (o:=⟨some 18,_,_,_,_,none⟩) (by kernel_rfl) rfl (λK hK=>?_)
   go_simp
   refine HQ.out.mono ?_
   rintro e w1 (⟨rfl,h1⟩|⟨rfl,h1⟩)
   ·exact ⟨rfl,Or.inl ⟨rfl,h1⟩⟩
   ·refine hK.out _ _ (λ_=>trivial) ?_
    clear hK K
    try simp only [Act.put,xA,xB,xC]
    refine zab (by kernel_rfl) ?_ _
    go_wp2
    exact ⟨⟨7,by omega,rfl,h1⟩,by simp [intOf]⟩
  ·go_upto_region 3 with fail
   have HQ:=hid (H.out.sw 22 1 wr.drew (H.out.drew _ _ HS.out) rfl)
   refine zac (S:=λ_=>True) (st:=10) (by kernel_rfl) ?_
   refine tqG 0 ⟨some 8,_,_,_,_,none⟩ (λ_=>trivial) ?_
   simp only [Act.put,xA,xB,xC]
   refine tqG 1 ⟨some 9,_,_,_,_,none⟩ (λ_=>trivial) ?_
   simp only [Act.put,xA,xB,xC]
   refine tqG 2 ⟨some 10,_,_,_,_,none⟩ (λ_=>trivial) ?_
   simp only [Act.put,xA,xB,xC]
   refine tqG 3 ⟨some 11,_,_,_,_,none⟩ (λ_=>trivial) ?_
   simp only [Act.put,xA,xB,xC]
   refine tqG 4 ⟨some 12,_,_,_,_,none⟩ (λ_=>trivial) ?_
   simp only [Act.put,xA,xB,xC]
   refine tqG 5 ⟨some 13,_,_,_,_,none⟩ (λ_=>trivial) ?_
   simp only [Act.put,xA,xB,xC]
   refine tqG 7 ⟨some 15,_,_,_,_,none⟩ (λ_=>trivial) ?_
   simp only [Act.put,xA,xB,xC]
   refine tqG 8 ⟨some 16,_,_,_,_,none⟩ (λ_=>trivial) ?_
   simp only [Act.put,xA,xB,xC]
   refine tqG 9 ⟨some 17,_,_,_,_,none⟩ (λ_=>trivial) ?_
   simp only [Act.put,xA,xB,xC]
   refine zaa (i:=6) (o:=⟨some 14,_,_,_,_,none⟩) (by kernel_rfl) rfl (λK hK=>?_)
   go_simp
   refine hK.out _ _ (λ_=>trivial) ?_
   clear hK K
   try simp only [Act.put,xA,xB,xC]
   refine zaa (i:=10) (o:=⟨some 18,_,_,_,_,none⟩) (by kernel_rfl) rfl (λK hK=>?_)
   go_simp
   refine HQ.out.mono ?_
   rintro e w1 (⟨rfl,h1⟩|⟨rfl,h1⟩)
   ·exact ⟨rfl,Or.inl ⟨rfl,h1⟩⟩
   ·refine hK.out _ _ (λ_=>trivial) ?_
    clear hK K
    try simp only [Act.put,xA,xB,xC]
    refine zab (by kernel_rfl) ?_ _
    go_wp2
    exact ⟨⟨8,by omega,rfl,h1⟩,by simp [intOf]⟩
  ·go_upto_region 5 with fail
   have HQ:=hid (H.out.sw 23 1 wr.drew (H.out.drew _ _ HS.out) rfl)
   refine zac (S:=λ_=>True) (st:=8) (by kernel_rfl) ?_
   refine tqG 0 ⟨some 20,_,_,_,_,none⟩ (λ_=>trivial) ?_
   simp only [Act.put,xA,xB,xC]
   refine tqG 1 ⟨some 21,_,_,_,_,none⟩ (λ_=>trivial) ?_
   simp only [Act.put,xA,xB,xC]
   refine tqG 2 ⟨some 22,_,_,_,_,none⟩ (λ_=>trivial) ?_
   simp only [Act.put,xA,xB,xC]
   refine tqG 3 ⟨some 23,_,_,_,_,none⟩ (λ_=>trivial) ?_
   simp only [Act.put,xA,xB,xC]
   refine tqG 5 ⟨some 25,_,_,_,_,none⟩ (λ_=>trivial) ?_
   simp only [Act.put,xA,xB,xC]
   refine tqG 6 ⟨some 26,_,_,_,_,none⟩ (λ_=>trivial) ?_
   simp only [Act.put,xA,xB,xC]
   refine tqG 7 ⟨some 27,_,_,_,_,none⟩ (λ_=>trivial) ?_
   simp only [Act.put,xA,xB,xC]
   refine zaa (i:=4) (o:=⟨some 24,_,_,_,_,none⟩) (by kernel_rfl) rfl (λK hK=>?_)
   go_simp
   refine hK.out _ _ (λ_=>trivial) ?_
   clear hK K
   try simp only [Act.put,xA,xB,xC]
   refine zaa (i:=8) (o:=⟨some 28,_,_,_,_,none⟩) (by kernel_rfl) rfl (λK hK=>?_)
   go_simp
   refine HQ.out.mono ?_
   rintro e w1 (⟨rfl,h1⟩|⟨rfl,h1⟩)
   ·exact ⟨rfl,Or.inl ⟨rfl,h1⟩⟩
   ·refine hK.out _ _ (λ_=>trivial) ?_
    clear hK K
    try simp only [Act.put,xA,xB,xC]
    refine zab (by kernel_rfl) ?_ _
    have HS:=hid h1
    clear h1
    go_upto_region 6 with fail
    have HQ:=hid (H.out.so 24 6 w1.drew (H.out.drew _ _ HS.out) rfl)
    refine zac (S:=λ_=>True) (st:=23) (by kernel_rfl) ?_
    refine tqG 0 ⟨some 29,_,_,_,_,none⟩ (λ_=>trivial) ?_
    simp only [Act.put,xA,xB,xC]
    refine tqG 1 ⟨some 30,_,_,_,_,none⟩ (λ_=>trivial) ?_
    simp only [Act.put,xA,xB,xC]
    refine tqG 2 ⟨some 31,_,_,_,_,none⟩ (λ_=>trivial) ?_
    simp only [Act.put,xA,xB,xC]
    refine tqG 3 ⟨some 32,_,_,_,_,none⟩ (λ_=>trivial) ?_
    simp only [Act.put,xA,xB,xC]
    refine tqG 4 ⟨some 33,_,_,_,_,none⟩ (λ_=>trivial) ?_
    simp only [Act.put,xA,xB,xC]
    refine tqG 5 ⟨some 34,_,_,_,_,none⟩ (λ_=>trivial) ?_
    simp only [Act.put,xA,xB,xC]
    refine tqG 6 ⟨some 35,_,_,_,_,none⟩ (λ_=>trivial) ?_
    simp only [Act.put,xA,xB,xC]
    refine tqG 7 ⟨some 36,_,_,_,_,none⟩ (λ_=>trivial) ?_
    simp only [Act.put,xA,xB,xC]
    refine tqG 8 ⟨some 37,_,_,_,_,none⟩ (λ_=>trivial) ?_
    simp only [Act.put,xA,xB,xC]
    refine tqG 9 ⟨some 38,_,_,_,_,none⟩ (λ_=>trivial) ?_
    simp only [Act.put,xA,xB,xC]
    refine tqG 10 ⟨some 39,_,_,_,_,none⟩ (λ_=>trivial) ?_
    simp only [Act.put,xA,xB,xC]
    refine tqG 11 ⟨some 40,_,_,_,_,none⟩ (λ_=>trivial) ?_
    simp only [Act.put,xA,xB,xC]
    refine tqG 12 ⟨some 41,_,_,_,_,none⟩ (λ_=>trivial) ?_
    simp only [Act.put,xA,xB,xC]
    refine tqG 13 ⟨some 42,_,_,_,_,none⟩ (λ_=>trivial) ?_
    simp only [Act.put,xA,xB,xC]
    refine tqG 14 ⟨some 43,_,_,_,_,none⟩ (λ_=>trivial) ?_
    simp only [Act.put,xA,xB,xC]
    refine tqG 15 ⟨some 44,_,_,_,_,none⟩ (λ_=>trivial) ?_
    simp only [Act.put,xA,xB,xC]
    refine tqG 16 ⟨some 45,_,_,_,_,none⟩ (λ_=>trivial) ?_
    simp only [Act.put,xA,xB,xC]
    refine tqG 17 ⟨some 46,_,_,_,_,none⟩ (λ_=>trivial) ?_
    simp only [Act.put,xA,xB,xC]
    refine tqG 18 ⟨some 47,_,_,_,_,none⟩ (λ_=>trivial) ?_
    simp only [Act.put,xA,xB,xC]
    refine tqG 20 ⟨some 49,_,_,_,_,none⟩ (λ_=>trivial) ?_
    simp only [Act.put,xA,xB,xC]
    refine tqG 21 ⟨some 50,_,_,_,_,none⟩ (λ_=>trivial) ?_
    simp only [Act.put,xA,xB,xC]
    refine tqG 22 ⟨some 51,_,_,_,_,none⟩ (λ_=>trivial) ?_
    simp only [Act.put,xA,xB,xC]
    refine zaa (i:=19) (o:=⟨some 48,_,_,_,_,none⟩) (by kernel_rfl) rfl (λK hK=>?_)
    go_simp
    refine hK.out _ _ (λ_=>trivial) ?_
    clear hK K
    try simp only [Act.put,xA,xB,xC]
    refine zaa (i:=23) (o:=⟨some 52,_,_,_,_,none⟩) (by kernel_rfl) rfl (λK hK=>?_)
    go_simp
    refine HQ.out.mono ?_
    rintro e w1 (⟨rfl,h1⟩|⟨rfl,h1⟩)
    ·exact ⟨rfl,Or.inl ⟨rfl,h1⟩⟩
    ·refine hK.out _ _ (λ_=>trivial) ?_
     clear hK K
     try simp only [Act.put,xA,xB,xC]
     refine zab (by kernel_rfl) ?_ _
     go_end0
     exact Or.inr ⟨rfl,h1⟩
end
end Go.Proofs.YtbennamieealbaaGreatDoor
