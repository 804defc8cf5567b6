/-
  Parts of a proof, joined.
-/
import Derived.Test.YtbennamieealbaaGreatDoorZg39
import Derived.Test.YtbennamieealbaaGreatDoorZg34
set_option linter.unusedVariables false
set_option maxRecDepth 100000
set_option maxHeartbeats 3200000
namespace Go.Proofs.YtbennamieealbaaGreatDoor
open Go.ChangeShapes Go.WideShapes Go.ChangeAt Go.RowKit
section
variable {F : Fx} {N c : Nat} {vco vln vsm : Value} {w w1 : World} {k : Cs} {M : Mach} {tk : Tk}
theorem Bd.tmR (h:Bd F w M tk):w.rangeAt F.g 41 [.int .u16 M.t.r,.int .u16 M.t.c,.bool M.t.on,.bool M.t.g]:=λi v hi=>by
 refine h.at (41+i) v ?_
 have hl:=(List.getElem?_eq_some_iff.1 hi).1
 have hc:i=0 \/ i=1 \/ i=2 \/ i=3:=by simp at hl;omega
 rcases hc with rfl|rfl|rfl|rfl <;> exact hi
theorem Bd.bmR (h:Bd F w M tk):w.rangeAt F.g 61 [.int .i64 M.b.l,.int .i64 M.b.a,.bool M.b.g,.int .i64 M.b.f]:=λi v hi=>by
 refine h.at (61+i) v ?_
 have hl:=(List.getElem?_eq_some_iff.1 hi).1
 have hc:i=0 \/ i=1 \/ i=2 \/ i=3:=by simp at hl;omega
 rcases hc with rfl|rfl|rfl|rfl <;> exact hi
theorem Bd.sm {tg bg:Bool} (h:Bd F w M tk) (e1:M.t.g=tg) (e2:M.b.g=bg):w.rangeAt F.g 0 (cpuL M.main)/\w.cell? ⟨F.g,44,none⟩=some (.bool tg)/\w.cell? ⟨F.g,63,none⟩=some (.bool bg):=by
 subst e1 e2
 exact ⟨h.mainR,h.at 44 _ rfl,h.at 63 _ rfl⟩
theorem Bd.st4 (h:Bd F w M tk):w.cell? ⟨F.g,72,none⟩=some (.int .i64 M.clock)/\w.rangeAt F.g 41 [.int .u16 M.t.r,.int .u16 M.t.c,.bool M.t.on,.bool M.t.g]:=⟨h.at 72 _ rfl,h.tmR⟩
theorem Bd.sl (h:Bd F w M tk):w.cell? ⟨F.g,72,none⟩=some (.int .i64 M.clock)/\w.rangeAt F.g 61 [.int .i64 M.b.l,.int .i64 M.b.a,.bool M.b.g,.int .i64 M.b.f]:=⟨h.at 72 _ rfl,h.bmR⟩
theorem Bd.sa {x:Bool} (h:Bd F w M tk) (e:M.held=x):w.cell? ⟨F.g,68,none⟩=some (.bool x)/\w.rangeAt F.g 15 (cpuL M.aux)/\w.cell? ⟨F.g,71,none⟩=some (.bool M.rung):=by
 subst e
 exact ⟨h.at 68 _ rfl,h.auxR,h.at 71 _ rfl⟩
theorem Ct.nextMain (h:Bd F w M tk):Calls Tryz.prog 99 #[pt F.g 0] w λe w'=>e = .returned (.int .i64 M.nxM)/\Below w.heap.size w w':=by
 obtain ⟨tg,htg⟩:∃ b,M.t.g=b:=⟨_,rfl⟩
 obtain ⟨bg,hbg⟩:∃ b,M.b.g=b:=⟨_,rfl⟩
 obtain ⟨mm,hmm⟩:∃ b,M.main.May=b:=⟨_,rfl⟩
 obtain ⟨on,hon⟩:∃ b,M.t.on=b:=⟨_,rfl⟩
 obtain ⟨z,hz⟩:∃ b,M.sleeps=b:=⟨_,rfl⟩
 have hA:∀ W,Calls Tryz.prog 187 #[.agg (cpuL M.main).toArray,.bool (tg || bg)] W λe w'=>e = .returned (.bool z)/\Below W.heap.size W w':=λW=>by
  rw [<- hz,<- htg,<- hbg];exact Ct.asleep M.main _ W
 have hX:M.nxM=if z=false then M.mready else if (mm && on)=true then M.clock+(M.t.c+1) else never:=by unfold Mach.nxM;rw [hz,hmm,hon]
 have hT:on=true->∀ W,Calls Tryz.prog 188 #[.agg #[.int .u16 M.t.r,.int .u16 M.t.c,.bool M.t.on,.bool M.t.g]] W λe w'=>e = .returned (.int .i64 (M.t.c+1))/\Below W.heap.size W w':=λe0 W=>by
  refine (zeh M.t.r M.t.c M.t.on M.t.g W h.fit.tc).mono ?_
  rintro e w1 ⟨rfl,hb⟩
  rw [hon,e0]
  exact ⟨rfl,hb⟩
 have hwr:IntKind.i64.wrap (M.clock+(M.t.c+1))=M.clock+(M.t.c+1):=by
  have:=h.fit.clock;have h2:0<=M.t.c/\M.t.c<=65535:=h.fit.tc
  rw [IntKind.wrap_i64];omega
 rw [hX]
 have H:=hid h
 have HTG:=hid htg
 have HBG:=hid hbg
 have HMM:=hid hmm
 have HON:=hid hon
 have HT0:=hid hT
 have HWR:=hid hwr
 clear h htg hbg hmm hon hz hX hT hwr
 have z0:=H.out.bx.z
 go_enter Tryz.func99,Tryz.ntmps99
 go_upto_region 1 with fail
 cases tg
 case' false =>
  simp only [Bool.false_or] at hA
  have HA:=hid hA
  clear hA
  refine wp_region_held_drew (S:=λw'=>w'.rangeAt F.g 0 (cpuL M.main)/\w'.cell? ⟨F.g,44,none⟩=some (.bool false)/\w'.cell? ⟨F.g,63,none⟩=some (.bool bg)) (by kernel_rfl) (H.out.drew.sm HTG.out HBG.out) ?_
  intro hS
  refine tqH 0 ⟨some 4,_,_,_,_,none⟩ hS ?_
  simp only [Act.put,xA,xB,xC]
  refine tqH 1 ⟨some 5,_,_,_,_,none⟩ hS ?_
  simp only [Act.put,xA,xB,xC]
  refine tqH 2 ⟨some 6,_,_,_,_,none⟩ hS ?_
  simp only [Act.put,xA,xB,xC]
  refine wpAnyH_take (i:=3) (oi:=⟨some 7,_,_,_,_,none⟩) (v:=.agg (cpuL M.main).toArray) rfl (by kernel_rfl) (by kernel_rfl) (by kernel_rfl) (λ_ _ _ h=>h) (Or.inl ⟨by rfl,λw' hSw=>zai 25 _ rfl F.g 0 rfl (cpuL M.main) _ hSw.1 Tryz.underlying25 rfl zbb⟩) hS ?_
  simp only [Act.put,xA,xB,xC]
  refine tqH 4 ⟨some 8,_,_,_,_,none⟩ hS ?_
  simp only [Act.put,xA,xB,xC]
  refine tqH 5 ⟨some 9,_,_,_,_,none⟩ hS ?_
  simp only [Act.put,xA,xB,xC]
  refine tqH 6 ⟨some 10,_,_,_,_,none⟩ hS ?_
  simp only [Act.put,xA,xB,xC]
  refine tqH 7 ⟨some 11,_,_,_,_,none⟩ hS ?_
  simp only [Act.put,xA,xB,xC]
  refine wpAnyH_take (i:=8) (oi:=⟨some 12,_,_,_,_,none⟩) (v:=.bool false) rfl (by kernel_rfl) (by kernel_rfl) (by kernel_rfl) (λ_ _ _ h=>h) (Or.inl ⟨by rfl,?_⟩) hS ?_
  ·intro w' hSw
   have hcc:=hSw.2.1
   have hcz:=World.block_lt_of_cell? w' _ hcc
   go_simp
   try (with_reducible rfl)
  simp only [Act.put,xA,xB,xC]
  refine tqH 9 ⟨some 13,_,_,_,_,none⟩ hS ?_
  simp only [Act.put,xA,xB,xC]
  refine tqH 10 ⟨some 14,_,_,_,_,some (9,false)⟩ hS ?_
  simp only [Act.put,xA,xB,xC]
  refine tqH 11 ⟨some 15,_,_,_,_,some (9,false)⟩ hS ?_
  simp only [Act.put,xA,xB,xC]
  refine tqH 12 ⟨some 16,_,_,_,_,some (9,false)⟩ hS ?_
  simp only [Act.put,xA,xB,xC]
  refine tqH 13 ⟨some 17,_,_,_,_,some (9,false)⟩ hS ?_
  simp only [Act.put,xA,xB,xC]
  refine wpAnyH_take (i:=14) (oi:=⟨some 18,_,_,_,_,some (9,false)⟩) (v:=.bool bg) rfl (by kernel_rfl) (by kernel_rfl) (by kernel_rfl) (λ_ _ _ h=>h) (Or.inl ⟨by rfl,?_⟩) hS ?_
  ·intro w' hSw
   have hcc:=hSw.2.2
   have hcz:=World.block_lt_of_cell? w' _ hcc
   go_simp
   try (with_reducible rfl)
  simp only [Act.put,xA,xB,xC]
  refine tqH 15 ⟨some 19,_,_,_,_,none⟩ hS ?_
  simp only [Act.put,xA,xB,xC]
  refine wpAnyH_ready (rs:=[16]) (by kernel_rfl) (by simp) ?_
  refine AllReadyH.cons (o:=⟨some 20,_,_,_,_,none⟩) rfl (λK hK=>?_) AllReadyH.nil
  go_simp
  go_at_call 187
  refine (HA.out _).mono ?_
  rintro e w1 ⟨rfl,hb1⟩
  have HX1:=hid (H.out.drew.kept hb1)
  have HB1:=hid (stp (st0 w).drew hb1)
  clear hb1
  try go_wp2_with fail
  refine hK.out _ _ (HX1.out.sm HTG.out HBG.out) (λ_=>?_)
  clear hK K hS
  have hS:=HX1.out.sm HTG.out HBG.out
  try simp only [Act.put,xA,xB,xC]
  refine tqH 17 ⟨some 21,_,_,_,_,none⟩ hS ?_
  simp only [Act.put,xA,xB,xC]
  refine tqH 18 ⟨some 3,_,_,_,_,none⟩ hS ?_
  simp only [Act.put,xA,xB,xC]
  refine wpAnyH_done (by kernel_rfl) ?_ _
 case' true =>
  simp only [Bool.true_or] at hA
  have HA:=hid hA
  clear hA
  refine wp_region_held_drew (S:=λw'=>w'.rangeAt F.g 0 (cpuL M.main)/\w'.cell? ⟨F.g,44,none⟩=some (.bool true)/\w'.cell? ⟨F.g,63,none⟩=some (.bool bg)) (by kernel_rfl) (H.out.drew.sm HTG.out HBG.out) ?_
  intro hS
  refine tqH 0 ⟨some 4,_,_,_,_,none⟩ hS ?_
  simp only [Act.put,xA,xB,xC]
  refine tqH 1 ⟨some 5,_,_,_,_,none⟩ hS ?_
  simp only [Act.put,xA,xB,xC]
  refine tqH 2 ⟨some 6,_,_,_,_,none⟩ hS ?_
  simp only [Act.put,xA,xB,xC]
  refine wpAnyH_take (i:=3) (oi:=⟨some 7,_,_,_,_,none⟩) (v:=.agg (cpuL M.main).toArray) rfl (by kernel_rfl) (by kernel_rfl) (by kernel_rfl) (λ_ _ _ h=>h) (Or.inl ⟨by rfl,λw' hSw=>zai 25 _ rfl F.g 0 rfl (cpuL M.main) _ hSw.1 Tryz.underlying25 rfl zbb⟩) hS ?_
  simp only [Act.put,xA,xB,xC]
  refine tqH 4 ⟨some 8,_,_,_,_,none⟩ hS ?_
  simp only [Act.put,xA,xB,xC]
  refine tqH 5 ⟨some 9,_,_,_,_,none⟩ hS ?_
  simp only [Act.put,xA,xB,xC]
  refine tqH 6 ⟨some 10,_,_,_,_,none⟩ hS ?_
  simp only [Act.put,xA,xB,xC]
  refine tqH 7 ⟨some 11,_,_,_,_,none⟩ hS ?_
  simp only [Act.put,xA,xB,xC]
  refine wpAnyH_take (i:=8) (oi:=⟨some 12,_,_,_,_,none⟩) (v:=.bool true) rfl (by kernel_rfl) (by kernel_rfl) (by kernel_rfl) (λ_ _ _ h=>h) (Or.inl ⟨by rfl,?_⟩) hS ?_
  ·intro w' hSw
   have hcc:=hSw.2.1
   have hcz:=World.block_lt_of_cell? w' _ hcc
   go_simp
   try (with_reducible rfl)
  simp only [Act.put,xA,xB,xC]
  refine tqH 9 ⟨some 13,_,_,_,_,none⟩ hS ?_
  simp only [Act.put,xA,xB,xC]
  refine wpAnyH_take (i:=10) (oi:=⟨some 14,_,_,_,_,some (9,false)⟩) (v:=undef) rfl (by kernel_rfl) (by kernel_rfl) (by kernel_rfl) (λ_ _ _ h=>h) (Or.inr ⟨by rfl,rfl⟩) hS ?_
  simp only [Act.put,xA,xB,xC]
  refine wpAnyH_take (i:=11) (oi:=⟨some 15,_,_,_,_,some (9,false)⟩) (v:=undef) rfl (by kernel_rfl) (by kernel_rfl) (by kernel_rfl) (λ_ _ _ h=>h) (Or.inr ⟨by rfl,rfl⟩) hS ?_
  simp only [Act.put,xA,xB,xC]
  refine wpAnyH_take (i:=12) (oi:=⟨some 16,_,_,_,_,some (9,false)⟩) (v:=undef) rfl (by kernel_rfl) (by kernel_rfl) (by kernel_rfl) (λ_ _ _ h=>h) (Or.inr ⟨by rfl,rfl⟩) hS ?_
  simp only [Act.put,xA,xB,xC]
  refine wpAnyH_take (i:=13) (oi:=⟨some 17,_,_,_,_,some (9,false)⟩) (v:=undef) rfl (by kernel_rfl) (by kernel_rfl) (by kernel_rfl) (λ_ _ _ h=>h) (Or.inr ⟨by rfl,rfl⟩) hS ?_
  simp only [Act.put,xA,xB,xC]
  refine wpAnyH_take (i:=14) (oi:=⟨some 18,_,_,_,_,some (9,false)⟩) (v:=undef) rfl (by kernel_rfl) (by kernel_rfl) (by kernel_rfl) (λ_ _ _ h=>h) (Or.inr ⟨by rfl,rfl⟩) hS ?_
  simp only [Act.put,xA,xB,xC]
  refine tqH 15 ⟨some 19,_,_,_,_,none⟩ hS ?_
  simp only [Act.put,xA,xB,xC]
  refine wpAnyH_ready (rs:=[16]) (by kernel_rfl) (by simp) ?_
  refine AllReadyH.cons (o:=⟨some 20,_,_,_,_,none⟩) rfl (λK hK=>?_) AllReadyH.nil
  go_simp
  go_at_call 187
  refine (HA.out _).mono ?_
  rintro e w1 ⟨rfl,hb1⟩
  have HX1:=hid (H.out.drew.kept hb1)
  have HB1:=hid (stp (st0 w).drew hb1)
  clear hb1
  try go_wp2_with fail
  refine hK.out _ _ (HX1.out.sm HTG.out HBG.out) (λ_=>?_)
  clear hK K hS
  have hS:=HX1.out.sm HTG.out HBG.out
  try simp only [Act.put,xA,xB,xC]
  refine tqH 17 ⟨some 21,_,_,_,_,none⟩ hS ?_
  simp only [Act.put,xA,xB,xC]
  refine tqH 18 ⟨some 3,_,_,_,_,none⟩ hS ?_
  simp only [Act.put,xA,xB,xC]
  refine wpAnyH_done (by kernel_rfl) ?_ _
 all_goals
  clear hS
  have zz:=HX1.out.bx.z
  cases z
  ·have m73:=HX1.out.at 73 (.int .i64 M.mready) rfl
   go_wp2
   go_ret
   exact ⟨rfl,HB1.out⟩
  ·cases mm
   ·have m13:w1.cell? ⟨F.g,13,none⟩=some (.bool false):=by rw [<- HMM.out];exact HX1.out.at 13 (.bool M.main.May) rfl
    go_wp2
    go_ret
    exact ⟨rfl,HB1.out⟩
   ·have m13:w1.cell? ⟨F.g,13,none⟩=some (.bool true):=by rw [<- HMM.out];exact HX1.out.at 13 (.bool M.main.May) rfl
    cases on
    ·have m43:w1.cell? ⟨F.g,43,none⟩=some (.bool false):=by rw [<- HON.out];exact HX1.out.at 43 (.bool M.t.on) rfl
     go_wp2
     go_ret
     exact ⟨rfl,HB1.out⟩
    ·have m43:w1.cell? ⟨F.g,43,none⟩=some (.bool true):=by rw [<- HON.out];exact HX1.out.at 43 (.bool M.t.on) rfl
     have HT:=hid (HT0.out rfl)
     go_upto_region 4 with fail
     have hwr:=HWR.out
     clear m13 m43
     refine wp_region_held_drew (S:=λw'=>w'.cell? ⟨F.g,72,none⟩=some (.int .i64 M.clock)/\w'.rangeAt F.g 41 [.int .u16 M.t.r,.int .u16 M.t.c,.bool M.t.on,.bool M.t.g]) (by kernel_rfl) (HX1.out.drew.st4) ?_
     intro hS
     refine tqH 0 ⟨some 39,_,_,_,_,none⟩ hS ?_
     simp only [Act.put,xA,xB,xC]
     refine tqH 1 ⟨some 40,_,_,_,_,none⟩ hS ?_
     simp only [Act.put,xA,xB,xC]
     refine tqH 2 ⟨some 41,_,_,_,_,none⟩ hS ?_
     simp only [Act.put,xA,xB,xC]
     refine wpAnyH_take (i:=3) (oi:=⟨some 42,_,_,_,_,none⟩) (v:=.int .i64 M.clock) rfl (by kernel_rfl) (by kernel_rfl) (by kernel_rfl) (λ_ _ _ h=>h) (Or.inl ⟨by rfl,?_⟩) hS ?_
     ·intro w' hSw
      have hcc:=hSw.1
      have hcz:=World.block_lt_of_cell? w' _ hcc
      go_simp
      try (with_reducible rfl)
     simp only [Act.put,xA,xB,xC]
     refine tqH 4 ⟨some 43,_,_,_,_,none⟩ hS ?_
     simp only [Act.put,xA,xB,xC]
     refine tqH 5 ⟨some 44,_,_,_,_,none⟩ hS ?_
     simp only [Act.put,xA,xB,xC]
     refine tqH 6 ⟨some 45,_,_,_,_,none⟩ hS ?_
     simp only [Act.put,xA,xB,xC]
     refine wpAnyH_take (i:=7) (oi:=⟨some 46,_,_,_,_,none⟩) (v:=.agg ([.int .u16 M.t.r,.int .u16 M.t.c,.bool M.t.on,.bool M.t.g]).toArray) rfl (by kernel_rfl) (by kernel_rfl) (by kernel_rfl) (λ_ _ _ h=>h) (Or.inl ⟨by rfl,λw' hSw=>zai 31 _ rfl F.g 41 rfl ([.int .u16 M.t.r,.int .u16 M.t.c,.bool M.t.on,.bool M.t.g]) _ hSw.2 Tryz.underlying31 rfl zbR⟩) hS ?_
     simp only [Act.put,xA,xB,xC]
     refine wpAnyH_ready (rs:=[8]) (by kernel_rfl) (by simp) ?_
     refine AllReadyH.cons (o:=⟨some 47,_,_,_,_,none⟩) rfl (λK hK=>?_) AllReadyH.nil
     go_simp
     go_at_call 188
     refine (HT.out _).mono ?_
     rintro e w2 ⟨rfl,hb2⟩
     have HX2:=hid (HX1.out.drew.kept hb2)
     have HB2:=hid (stp HB1.out.drew hb2)
     clear hb2
     try go_wp2_with fail
     refine hK.out _ _ (HX2.out.st4) (λ_=>?_)
     clear hK K hS
     have hS:=HX2.out.st4
     try simp only [Act.put,xA,xB,xC]
     refine tqH 9 ⟨some 48,_,_,_,_,none⟩ hS ?_
     simp only [Act.put,xA,xB,xC]
     refine tqH 10 ⟨some 2,_,_,_,_,none⟩ hS ?_
     simp only [Act.put,xA,xB,xC]
     refine wpAnyH_done (by kernel_rfl) ?_ _
     go_wp2
     go_ret
     exact ⟨rfl,HB2.out⟩
theorem Ct.nextAux (h:Bd F w M tk):Calls Tryz.prog 101 #[pt F.g 0] w λe w'=>e = .returned (.int .i64 M.nxA)/\Below w.heap.size w w':=by
 obtain ⟨x,hx⟩:∃ b,M.held=b:=⟨_,rfl⟩
 obtain ⟨z,hz⟩:∃ b,M.sleepsA=b:=⟨_,rfl⟩
 have hA:∀ W,Calls Tryz.prog 187 #[.agg (cpuL M.aux).toArray,.bool M.rung] W λe w'=>e = .returned (.bool z)/\Below W.heap.size W w':=λW=>by
  rw [<- hz];exact Ct.asleep M.aux _ W
 have hX:M.nxA=if (x || z)=true then never else M.aready:=by unfold Mach.nxA;rw [hz,hx]
 rw [hX]
 have H:=hid h
 have HH:=hid hx
 have HA:=hid hA
 clear h hx hz hX hA
 have z0:=H.out.bx.z
 go_enter Tryz.func101,Tryz.ntmps101
 go_upto_region 1 with fail
 cases x
 ·skip
  refine wp_region_held_drew (S:=λw'=>w'.cell? ⟨F.g,68,none⟩=some (.bool false)/\w'.rangeAt F.g 15 (cpuL M.aux)/\w'.cell? ⟨F.g,71,none⟩=some (.bool M.rung)) (by kernel_rfl) (H.out.drew.sa HH.out) ?_
  intro hS
  refine tqH 0 ⟨some 3,_,_,_,_,none⟩ hS ?_
  simp only [Act.put,xA,xB,xC]
  refine tqH 1 ⟨some 4,_,_,_,_,none⟩ hS ?_
  simp only [Act.put,xA,xB,xC]
  refine tqH 2 ⟨some 5,_,_,_,_,none⟩ hS ?_
  simp only [Act.put,xA,xB,xC]
  refine wpAnyH_take (i:=3) (oi:=⟨some 6,_,_,_,_,none⟩) (v:=.bool false) rfl (by kernel_rfl) (by kernel_rfl) (by kernel_rfl) (λ_ _ _ h=>h) (Or.inl ⟨by rfl,?_⟩) hS ?_
  ·intro w' hSw
   have hcc:=hSw.1
   have hcz:=World.block_lt_of_cell? w' _ hcc
   go_simp
   try (with_reducible rfl)
  simp only [Act.put,xA,xB,xC]
  refine tqH 4 ⟨some 7,_,_,_,_,none⟩ hS ?_
  simp only [Act.put,xA,xB,xC]
  refine tqH 5 ⟨some 8,_,_,_,_,some (4,false)⟩ hS ?_
  simp only [Act.put,xA,xB,xC]
  refine tqH 6 ⟨some 9,_,_,_,_,some (4,false)⟩ hS ?_
  simp only [Act.put,xA,xB,xC]
  refine tqH 7 ⟨some 10,_,_,_,_,some (4,false)⟩ hS ?_
  simp only [Act.put,xA,xB,xC]
  refine wpAnyH_take (i:=8) (oi:=⟨some 11,_,_,_,_,some (4,false)⟩) (v:=.agg (cpuL M.aux).toArray) rfl (by kernel_rfl) (by kernel_rfl) (by kernel_rfl) (λ_ _ _ h=>h) (Or.inl ⟨by rfl,λw' hSw=>zai 25 _ rfl F.g 15 rfl (cpuL M.aux) _ hSw.2.1 Tryz.underlying25 rfl zbb⟩) hS ?_
  simp only [Act.put,xA,xB,xC]
  refine tqH 9 ⟨some 12,_,_,_,_,some (4,false)⟩ hS ?_
  simp only [Act.put,xA,xB,xC]
  refine tqH 10 ⟨some 13,_,_,_,_,some (4,false)⟩ hS ?_
  simp only [Act.put,xA,xB,xC]
  refine tqH 11 ⟨some 14,_,_,_,_,some (4,false)⟩ hS ?_
  simp only [Act.put,xA,xB,xC]
  refine wpAnyH_take (i:=12) (oi:=⟨some 15,_,_,_,_,some (4,false)⟩) (v:=.bool M.rung) rfl (by kernel_rfl) (by kernel_rfl) (by kernel_rfl) (λ_ _ _ h=>h) (Or.inl ⟨by rfl,?_⟩) hS ?_
  ·intro w' hSw
   have hcc:=hSw.2.2
   have hcz:=World.block_lt_of_cell? w' _ hcc
   go_simp
   try (with_reducible rfl)
  simp only [Act.put,xA,xB,xC]
  refine wpAnyH_ready (rs:=[13]) (by kernel_rfl) (by simp) ?_
  refine AllReadyH.cons (o:=⟨some 16,_,_,_,_,some (4,false)⟩) rfl (λK hK=>?_) AllReadyH.nil
  go_simp
  go_at_call 187
  refine (HA.out _).mono ?_
  rintro e w1 ⟨rfl,hb1⟩
  have HX1:=hid (H.out.drew.kept hb1)
  have HB1:=hid (stp (st0 w).drew hb1)
  clear hb1
  try go_wp2_with fail
  refine hK.out _ _ (HX1.out.sa HH.out) (λ_=>?_)
  clear hK K hS
  have hS:=HX1.out.sa HH.out
  try simp only [Act.put,xA,xB,xC]
  refine tqH 14 ⟨some 17,_,_,_,_,none⟩ hS ?_
  simp only [Act.put,xA,xB,xC]
  refine wpAnyH_done (by kernel_rfl) ?_ _
  clear hS
  have zz:=HX1.out.bx.z
  have m74:=HX1.out.at 74 (.int .i64 M.aready) rfl
  cases z
  all_goals
   go_wp2
   go_ret
   exact ⟨rfl,HB1.out⟩
 ·skip
  refine wp_region_held_drew (S:=λw'=>w'.cell? ⟨F.g,68,none⟩=some (.bool true)/\w'.rangeAt F.g 15 (cpuL M.aux)/\w'.cell? ⟨F.g,71,none⟩=some (.bool M.rung)) (by kernel_rfl) (H.out.drew.sa HH.out) ?_
  intro hS
  refine tqH 0 ⟨some 3,_,_,_,_,none⟩ hS ?_
  simp only [Act.put,xA,xB,xC]
  refine tqH 1 ⟨some 4,_,_,_,_,none⟩ hS ?_
  simp only [Act.put,xA,xB,xC]
  refine tqH 2 ⟨some 5,_,_,_,_,none⟩ hS ?_
  simp only [Act.put,xA,xB,xC]
  refine wpAnyH_take (i:=3) (oi:=⟨some 6,_,_,_,_,none⟩) (v:=.bool true) rfl (by kernel_rfl) (by kernel_rfl) (by kernel_rfl) (λ_ _ _ h=>h) (Or.inl ⟨by rfl,?_⟩) hS ?_
  ·intro w' hSw
   have hcc:=hSw.1
   have hcz:=World.block_lt_of_cell? w' _ hcc
   go_simp
   try (with_reducible rfl)
  simp only [Act.put,xA,xB,xC]
  refine tqH 4 ⟨some 7,_,_,_,_,none⟩ hS ?_
  simp only [Act.put,xA,xB,xC]
  refine wpAnyH_take (i:=5) (oi:=⟨some 8,_,_,_,_,some (4,false)⟩) (v:=undef) rfl (by kernel_rfl) (by kernel_rfl) (by kernel_rfl) (λ_ _ _ h=>h) (Or.inr ⟨by rfl,rfl⟩) hS ?_
  simp only [Act.put,xA,xB,xC]
  refine wpAnyH_take (i:=6) (oi:=⟨some 9,_,_,_,_,some (4,false)⟩) (v:=undef) rfl (by kernel_rfl) (by kernel_rfl) (by kernel_rfl) (λ_ _ _ h=>h) (Or.inr ⟨by rfl,rfl⟩) hS ?_
  simp only [Act.put,xA,xB,xC]
  refine wpAnyH_take (i:=7) (oi:=⟨some 10,_,_,_,_,some (4,false)⟩) (v:=undef) rfl (by kernel_rfl) (by kernel_rfl) (by kernel_rfl) (λ_ _ _ h=>h) (Or.inr ⟨by rfl,rfl⟩) hS ?_
  simp only [Act.put,xA,xB,xC]
  refine wpAnyH_take (i:=8) (oi:=⟨some 11,_,_,_,_,some (4,false)⟩) (v:=undef) rfl (by kernel_rfl) (by kernel_rfl) (by kernel_rfl) (λ_ _ _ h=>h) (Or.inr ⟨by rfl,rfl⟩) hS ?_
  simp only [Act.put,xA,xB,xC]
  refine wpAnyH_take (i:=9) (oi:=⟨some 12,_,_,_,_,some (4,false)⟩) (v:=undef) rfl (by kernel_rfl) (by kernel_rfl) (by kernel_rfl) (λ_ _ _ h=>h) (Or.inr ⟨by rfl,rfl⟩) hS ?_
  simp only [Act.put,xA,xB,xC]
  refine wpAnyH_take (i:=10) (oi:=⟨some 13,_,_,_,_,some (4,false)⟩) (v:=undef) rfl (by kernel_rfl) (by kernel_rfl) (by kernel_rfl) (λ_ _ _ h=>h) (Or.inr ⟨by rfl,rfl⟩) hS ?_
  simp only [Act.put,xA,xB,xC]
  refine wpAnyH_take (i:=11) (oi:=⟨some 14,_,_,_,_,some (4,false)⟩) (v:=undef) rfl (by kernel_rfl) (by kernel_rfl) (by kernel_rfl) (λ_ _ _ h=>h) (Or.inr ⟨by rfl,rfl⟩) hS ?_
  simp only [Act.put,xA,xB,xC]
  refine wpAnyH_take (i:=12) (oi:=⟨some 15,_,_,_,_,some (4,false)⟩) (v:=undef) rfl (by kernel_rfl) (by kernel_rfl) (by kernel_rfl) (λ_ _ _ h=>h) (Or.inr ⟨by rfl,rfl⟩) hS ?_
  simp only [Act.put,xA,xB,xC]
  refine wpAnyH_take (i:=13) (oi:=⟨some 16,_,_,_,_,some (4,false)⟩) (v:=undef) rfl (by kernel_rfl) (by kernel_rfl) (by kernel_rfl) (λ_ _ _ h=>h) (Or.inr ⟨by rfl,rfl⟩) hS ?_
  simp only [Act.put,xA,xB,xC]
  refine tqH 14 ⟨some 17,_,_,_,_,none⟩ hS ?_
  simp only [Act.put,xA,xB,xC]
  refine wpAnyH_done (by kernel_rfl) ?_ _
  go_wp2
  go_ret
  exact ⟨rfl,(st0 w).drew⟩
theorem Ct.ev1 {b:Nat} (h:CI F N c vco vln vsm w k) (hb:w.cell? ⟨b,0,none⟩=some (pt c 0)):Calls Tryz.prog 94 #[pt b 0] w λe w'=>e = .returned (.int .i64 k.nxP)/\Below w.heap.size w w':=by
 have hbz:=World.block_lt_of_cell? w _ hb
 have k1:=h.cb.bx.at 1 vco rfl
 have kz:=h.cb.z
 have HCO:=hid h.co
 clear h
 go_enter Tryz.func94,Tryz.ntmps94
 go_wp2_with (go_at_call 95;refine (Ct.nextPress k HCO.out).mono ?_;rintro e w1 ⟨rfl,rfl⟩)
 go_ret
 exact ⟨rfl,st0 w⟩
theorem Ct.ev2 {b:Nat} (h:Bd F w M tk) (hb:w.cell? ⟨b,0,none⟩=some (pt F.g 0)):Calls Tryz.prog 96 #[pt b 0] w λe w'=>e = .returned (.int .i64 (M.clock+M.b.tol))/\Below w.heap.size w w':=by
 have hbz:=World.block_lt_of_cell? w _ hb
 have z0:=h.bx.z
 have hwr:IntKind.i64.wrap (M.clock+M.b.tol)=M.clock+M.b.tol:=by
  have:=h.fit.clock;have:=zmI h.fit.b
  rw [IntKind.wrap_i64];omega
 have H:=hid h
 have HC:=hid hb
 clear h hb
 go_enter Tryz.func96,Tryz.ntmps96
 go_upto_region 1 with fail
 refine wp_region_held_drew (S:=λw'=>w'.cell? ⟨b,0,none⟩=some (pt F.g 0)/\w'.cell? ⟨F.g,72,none⟩=some (.int .i64 M.clock)/\w'.rangeAt F.g 61 [.int .i64 M.b.l,.int .i64 M.b.a,.bool M.b.g,.int .i64 M.b.f]) (by kernel_rfl) (⟨HC.out,H.out.drew.sl⟩) ?_
 intro hS
 refine wpAnyH_take (i:=0) (oi:=⟨some 2,_,_,_,_,none⟩) (v:=pt F.g 0) rfl (by kernel_rfl) (by kernel_rfl) (by kernel_rfl) (λ_ _ _ h=>h) (Or.inl ⟨by rfl,?_⟩) hS ?_
 ·intro w' hSw
  have hcc:=hSw.1
  have hcz:=World.block_lt_of_cell? w' _ hcc
  go_simp
  try (with_reducible rfl)
 simp only [Act.put,xA,xB,xC]
 refine tqH 1 ⟨some 3,_,_,_,_,none⟩ hS ?_
 simp only [Act.put,xA,xB,xC]
 refine tqH 2 ⟨some 4,_,_,_,_,none⟩ hS ?_
 simp only [Act.put,xA,xB,xC]
 refine wpAnyH_take (i:=3) (oi:=⟨some 5,_,_,_,_,none⟩) (v:=.int .i64 M.clock) rfl (by kernel_rfl) (by kernel_rfl) (by kernel_rfl) (λ_ _ _ h=>h) (Or.inl ⟨by rfl,?_⟩) hS ?_
 ·intro w' hSw
  have hcc:=hSw.2.1
  have hcz:=World.block_lt_of_cell? w' _ hcc
  go_simp
  try (with_reducible rfl)
 simp only [Act.put,xA,xB,xC]
 refine wpAnyH_take (i:=4) (oi:=⟨some 6,_,_,_,_,none⟩) (v:=pt F.g 0) rfl (by kernel_rfl) (by kernel_rfl) (by kernel_rfl) (λ_ _ _ h=>h) (Or.inl ⟨by rfl,?_⟩) hS ?_
 ·intro w' hSw
  have hcc:=hSw.1
  have hcz:=World.block_lt_of_cell? w' _ hcc
  go_simp
  try (with_reducible rfl)
 simp only [Act.put,xA,xB,xC]
 refine tqH 5 ⟨some 7,_,_,_,_,none⟩ hS ?_
 simp only [Act.put,xA,xB,xC]
 refine tqH 6 ⟨some 8,_,_,_,_,none⟩ hS ?_
 simp only [Act.put,xA,xB,xC]
 refine wpAnyH_take (i:=7) (oi:=⟨some 9,_,_,_,_,none⟩) (v:=.agg ([.int .i64 M.b.l,.int .i64 M.b.a,.bool M.b.g,.int .i64 M.b.f]).toArray) rfl (by kernel_rfl) (by kernel_rfl) (by kernel_rfl) (λ_ _ _ h=>h) (Or.inl ⟨by rfl,λw' hSw=>zai 38 _ rfl F.g 61 rfl ([.int .i64 M.b.l,.int .i64 M.b.a,.bool M.b.g,.int .i64 M.b.f]) _ hSw.2.2 Tryz.underlying38 rfl zcf⟩) hS ?_
 simp only [Act.put,xA,xB,xC]
 refine wpAnyH_ready (rs:=[8]) (by kernel_rfl) (by simp) ?_
 refine AllReadyH.cons (o:=⟨some 10,_,_,_,_,none⟩) rfl (λK hK=>?_) AllReadyH.nil
 go_simp
 go_at_call 97
 refine (Ct.toLine M.b _ H.out.fit.b).mono ?_
 rintro e w1 ⟨rfl,hb1⟩
 have HX1:=hid (H.out.drew.kept hb1)
 have HB1:=hid (stp (st0 w).drew hb1)
 have HC1:=hid ((hb1.cell (p:=⟨b,0,none⟩) (World.block_lt_of_cell? w _ HC.out)).trans HC.out)
 clear hb1
 try go_wp2_with fail
 refine hK.out _ _ (And.intro HC1.out HX1.out.sl) (λ_=>?_)
 clear hK K hS
 have hS:=And.intro HC1.out HX1.out.sl
 try simp only [Act.put,xA,xB,xC]
 refine tqH 9 ⟨some 11,_,_,_,_,none⟩ hS ?_
 simp only [Act.put,xA,xB,xC]
 refine tqH 10 ⟨some 1,_,_,_,_,none⟩ hS ?_
 simp only [Act.put,xA,xB,xC]
 refine wpAnyH_done (by kernel_rfl) ?_ _
 go_wp2
 go_ret
 exact ⟨rfl,HB1.out⟩
theorem Ct.ev3 {b:Nat} (h:Bd F w M tk) (hb:w.cell? ⟨b,0,none⟩=some (pt F.g 0)):Calls Tryz.prog 98 #[pt b 0] w λe w'=>e = .returned (.int .i64 M.nxM)/\Below w.heap.size w w':=by
 have hbz:=World.block_lt_of_cell? w _ hb
 have H:=hid h
 clear h
 go_enter Tryz.func98,Tryz.ntmps98
 go_wp2_with (go_at_call 99;refine (Ct.nextMain H.out).mono ?_;rintro e w1 ⟨rfl,hb1⟩)
 go_ret
 exact ⟨rfl,hb1⟩
theorem Ct.ev4 {b:Nat} (h:Bd F w M tk) (hb:w.cell? ⟨b,0,none⟩=some (pt F.g 0)):Calls Tryz.prog 100 #[pt b 0] w λe w'=>e = .returned (.int .i64 M.nxA)/\Below w.heap.size w w':=by
 have hbz:=World.block_lt_of_cell? w _ hb
 have H:=hid h
 clear h
 go_enter Tryz.func100,Tryz.ntmps100
 go_wp2_with (go_at_call 101;refine (Ct.nextAux H.out).mono ?_;rintro e w1 ⟨rfl,hb1⟩)
 go_ret
 exact ⟨rfl,hb1⟩
end
end Go.Proofs.YtbennamieealbaaGreatDoor
