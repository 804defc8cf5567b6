/-
  Parts of a proof, joined.
-/
import Derived.Test.YtbennamieealbaaGreatDoorZg40
set_option linter.unusedVariables false
set_option maxRecDepth 100000
set_option maxHeartbeats 1600000
namespace Go.Proofs.YtbennamieealbaaGreatDoor
open Go.ChangeShapes Go.WideShapes Go.ChangeAt Go.RowKit
section
variable {F : Fx} {w : World} {M : Mach} {tk : Tk} {b : Nat} {tt : Int}
theorem Ct.runB (x:Bem) (n:Int) (w:World) (hn:0<=n/\n<=20000):Calls Tryz.prog 66 #[.agg #[.int .i64 x.l,.int .i64 x.a,.bool x.g,.int .i64 x.f],.int .i64 n] w λe w'=>∃ y,e = .returned (.tuple #[.agg #[.int .i64 (x.run n).l,.int .i64 (x.run n).a,.bool (x.run n).g,.int .i64 (x.run n).f],.int .i64 y])/\Below w.heap.size w w':=by
 unfold Bem.run
 by_cases hk:bok x.l x.a x.f=true
 ·rw [if_pos hk]
  refine (zez x.l x.a x.f n x.g w ((zax _ _ _).1 hk) hn).mono ?_
  rintro e w1 ⟨rfl,hb⟩
  exact ⟨_,rfl,hb⟩
 ·rw [if_neg hk]
  refine (zeA x.l x.a x.f n x.g w (Or.inl (λy=>hk ((zax _ _ _).2 y)))).mono ?_
  rintro e w1 ⟨rfl,hb⟩
  exact ⟨_,rfl,hb⟩
theorem Ct.runT (h:M.fit) (n:Int) (w:World) (hn:0<=n/\n<=20000):Calls Tryz.prog 106 #[.agg #[.int .u16 M.t.r,.int .u16 M.t.c,.bool M.t.on,.bool M.t.g],.int .i64 n] w λe w'=>∃ y,e = .returned (.tuple #[.agg #[.int .u16 M.t.r,.int .u16 (rnC M.t.r M.t.c M.t.on n),.bool M.t.on,.bool (rnG M.t.c M.t.on M.t.g n)],.int .i64 y])/\Below w.heap.size w w':=by
 refine (znN M.t.r M.t.c n M.t.on M.t.g w h.tr h.tc hn).mono ?_
 rintro e w1 ⟨rfl,hb⟩
 exact ⟨_,rfl,hb⟩
theorem Ct.pt1 (h:Bd F w M tk) (hb:w.cell? ⟨b,0,none⟩=some (pt F.g 0)) (ht:M.clock<=tt/\tt<=M.clock+64):Calls Tryz.prog 102 #[.int .i64 tt,pt b 0] w λe w'=>e = .returned (.tuple #[])/\Bd F w' (M.cA tt) tk/\Bt F w w':=by
 have m73:=h.at 73 (.int .i64 M.mready) rfl
 have mz:=h.bx.z
 have mf:=h.bx.f 73
 have hbz:=World.block_lt_of_cell? w _ hb
 have hsl:∀ W,Calls Tryz.prog 103 #[.int .i64 M.mready,.int .i64 tt,.int .i64 3] W λe w'=>e = .returned (.int .i64 (slept M.mready tt 3))/\W=w':=λW=>Ct.sleeps _ _ 3 (Or.inl rfl) (by have:=h.fit.mready;have:=h.fit.clock;omega) (by have:=h.fit.clock;omega) W
 have H:=hid h
 have HT:=hid ht
 have HSL:=hid hsl
 have HS:Hid (w.cell? ⟨b,0,none⟩=some (pt F.g 0)/\w.cell? ⟨F.g,73,none⟩=some (.int .i64 M.mready)):=hid ⟨hb,m73⟩
 clear h ht hsl
 go_enter Tryz.func102,Tryz.ntmps102
 go_upto_region 0 with fail
 refine zac (S:=λw'=>w'.cell? ⟨b,0,none⟩=some (pt F.g 0)/\w'.cell? ⟨F.g,73,none⟩=some (.int .i64 M.mready)) (st:=9) (by kernel_rfl) ?_
 have hS:=HS.out
 refine zaf (i:=0) (oi:=⟨some 3,_,_,_,_,none⟩) (v:=pt F.g 0) rfl (by kernel_rfl) (by kernel_rfl) (by kernel_rfl) (by kernel_rfl) (by decide) (by kernel_rfl) (λ_ _ _ h=>h) (Or.inl ⟨by rfl,?_⟩) hS ?_
 ·intro w' hSw
  have hcc:=hSw.1
  have hcz:=World.block_lt_of_cell? w' _ hcc
  go_simp
  try (with_reducible rfl)
 simp only [Act.put,xA,xB,xC]
 refine zaf (i:=1) (oi:=⟨some 4,_,_,_,_,none⟩) (v:=pt F.g 0) rfl (by kernel_rfl) (by kernel_rfl) (by kernel_rfl) (by kernel_rfl) (by decide) (by kernel_rfl) (λ_ _ _ h=>h) (Or.inl ⟨by rfl,?_⟩) hS ?_
 ·intro w' hSw
  have hcc:=hSw.1
  have hcz:=World.block_lt_of_cell? w' _ hcc
  go_simp
  try (with_reducible rfl)
 simp only [Act.put,xA,xB,xC]
 refine tqG 2 ⟨some 5,_,_,_,_,none⟩ (λ_=>hS) ?_
 simp only [Act.put,xA,xB,xC]
 refine tqG 3 ⟨some 6,_,_,_,_,none⟩ (λ_=>hS) ?_
 simp only [Act.put,xA,xB,xC]
 refine zaf (i:=4) (oi:=⟨some 7,_,_,_,_,none⟩) (v:=.int .i64 M.mready) rfl (by kernel_rfl) (by kernel_rfl) (by kernel_rfl) (by kernel_rfl) (by decide) (by kernel_rfl) (λ_ _ _ h=>h) (Or.inl ⟨by rfl,?_⟩) hS ?_
 ·intro w' hSw
  have hcc:=hSw.2
  have hcz:=World.block_lt_of_cell? w' _ hcc
  go_simp
  try (with_reducible rfl)
 simp only [Act.put,xA,xB,xC]
 refine tqG 5 ⟨some 8,_,_,_,_,none⟩ (λ_=>hS) ?_
 simp only [Act.put,xA,xB,xC]
 refine zaa (i:=6) (o:=⟨some 9,_,_,_,_,none⟩) (by kernel_rfl) rfl (λK hK=>?_)
 go_simp
 go_at_call 103
 refine (HSL.out _).mono ?_
 rintro e w1 ⟨rfl,rfl⟩
 try go_wp2_with fail
 refine hK.out _ _ (λ_=>hS) ?_
 clear hK K
 try simp only [Act.put,xA,xB,xC]
 refine tqG 7 ⟨some 10,_,_,_,_,none⟩ (λ_=>hS) ?_
 simp only [Act.put,xA,xB,xC]
 refine tqG 8 ⟨some 11,_,_,_,_,none⟩ (λ_=>hS) ?_
 simp only [Act.put,xA,xB,xC]
 refine zaa (i:=9) (o:=⟨none,_,_,_,_,none⟩) (by kernel_rfl) rfl (λK hK=>?_)
 go_simp
 refine hK.out _ _ (λh=>by simp at h) ?_
 clear hK K
 refine zab (by kernel_rfl) ?_ _
 go_wp2
 go_end0
 exact ⟨rfl,H.out.drew.put (M':=M.cA tt) (tk':=tk) 73 _ (by omega) rfl ⟨rfl,rfl,rfl,rfl,rfl⟩ (zph H.out.fit HT.out.2),Bt.set H.out.nd (Bt.kept (Bt.refl F w) H.out.big (st0 w).drew) 73 _⟩
theorem Ct.pt2 (h:Bd F w M tk) (hb:w.cell? ⟨b,0,none⟩=some (pt F.g 0)) (ht:M.clock<=tt/\tt<=M.clock+64):Calls Tryz.prog 104 #[.int .i64 tt,pt b 0] w λe w'=>e = .returned (.tuple #[])/\Bd F w' (M.cB tt) tk/\Bt F w w':=by
 have mz:=h.bx.z
 have hbz:=World.block_lt_of_cell? w _ hb
 obtain ⟨x,hx⟩:∃ b,M.held=b:=⟨_,rfl⟩
 have m68:w.cell? ⟨F.g,68,none⟩=some (.bool x):=by rw [<- hx];exact h.at 68 (.bool M.held) rfl
 cases x
 ·have m74:=h.at 74 (.int .i64 M.aready) rfl
  have mf:=h.bx.f 74
  have hsl:∀ W,Calls Tryz.prog 103 #[.int .i64 M.aready,.int .i64 tt,.int .i64 5] W λe w'=>e = .returned (.int .i64 (slept M.aready tt 5))/\W=w':=λW=>Ct.sleeps _ _ 5 (Or.inr rfl) (by have:=h.fit.aready;have:=h.fit.clock;omega) (by have:=h.fit.clock;omega) W
  have he:M.cB tt={ M with aready:=slept M.aready tt 5 }:=by unfold Mach.cB;rw [hx];rfl
  have hfit:=zpi (M:=M) (tt:=tt) h.fit ht.2
  rw [he] at hfit ⊢
  have H:=hid h
  have HFI:=hid hfit
  have HSL:=hid hsl
  have HS:Hid (w.cell? ⟨b,0,none⟩=some (pt F.g 0)/\w.cell? ⟨F.g,74,none⟩=some (.int .i64 M.aready)):=hid ⟨hb,m74⟩
  clear h ht hsl hfit he hx
  go_enter Tryz.func104,Tryz.ntmps104
  go_upto_region 1 with fail
  refine zac (S:=λw'=>w'.cell? ⟨b,0,none⟩=some (pt F.g 0)/\w'.cell? ⟨F.g,74,none⟩=some (.int .i64 M.aready)) (st:=9) (by kernel_rfl) ?_
  have hS:=HS.out
  refine zaf (i:=0) (oi:=⟨some 8,_,_,_,_,none⟩) (v:=pt F.g 0) rfl (by kernel_rfl) (by kernel_rfl) (by kernel_rfl) (by kernel_rfl) (by decide) (by kernel_rfl) (λ_ _ _ h=>h) (Or.inl ⟨by rfl,?_⟩) hS ?_
  ·intro w' hSw
   have hcc:=hSw.1
   have hcz:=World.block_lt_of_cell? w' _ hcc
   go_simp
   try (with_reducible rfl)
  simp only [Act.put,xA,xB,xC]
  refine zaf (i:=1) (oi:=⟨some 9,_,_,_,_,none⟩) (v:=pt F.g 0) rfl (by kernel_rfl) (by kernel_rfl) (by kernel_rfl) (by kernel_rfl) (by decide) (by kernel_rfl) (λ_ _ _ h=>h) (Or.inl ⟨by rfl,?_⟩) hS ?_
  ·intro w' hSw
   have hcc:=hSw.1
   have hcz:=World.block_lt_of_cell? w' _ hcc
   go_simp
   try (with_reducible rfl)
  simp only [Act.put,xA,xB,xC]
  refine tqG 2 ⟨some 10,_,_,_,_,none⟩ (λ_=>hS) ?_
  simp only [Act.put,xA,xB,xC]
  refine tqG 3 ⟨some 11,_,_,_,_,none⟩ (λ_=>hS) ?_
  simp only [Act.put,xA,xB,xC]
  refine zaf (i:=4) (oi:=⟨some 12,_,_,_,_,none⟩) (v:=.int .i64 M.aready) rfl (by kernel_rfl) (by kernel_rfl) (by kernel_rfl) (by kernel_rfl) (by decide) (by kernel_rfl) (λ_ _ _ h=>h) (Or.inl ⟨by rfl,?_⟩) hS ?_
  ·intro w' hSw
   have hcc:=hSw.2
   have hcz:=World.block_lt_of_cell? w' _ hcc
   go_simp
   try (with_reducible rfl)
  simp only [Act.put,xA,xB,xC]
  refine tqG 5 ⟨some 13,_,_,_,_,none⟩ (λ_=>hS) ?_
  simp only [Act.put,xA,xB,xC]
  refine zaa (i:=6) (o:=⟨some 14,_,_,_,_,none⟩) (by kernel_rfl) rfl (λK hK=>?_)
  go_simp
  go_at_call 103
  refine (HSL.out _).mono ?_
  rintro e w1 ⟨rfl,rfl⟩
  try go_wp2_with fail
  refine hK.out _ _ (λ_=>hS) ?_
  clear hK K
  try simp only [Act.put,xA,xB,xC]
  refine tqG 7 ⟨some 15,_,_,_,_,none⟩ (λ_=>hS) ?_
  simp only [Act.put,xA,xB,xC]
  refine tqG 8 ⟨some 16,_,_,_,_,none⟩ (λ_=>hS) ?_
  simp only [Act.put,xA,xB,xC]
  refine zaa (i:=9) (o:=⟨none,_,_,_,_,none⟩) (by kernel_rfl) rfl (λK hK=>?_)
  go_simp
  refine hK.out _ _ (λh=>by simp at h) ?_
  clear hK K
  refine zab (by kernel_rfl) ?_ _
  go_wp2
  go_end0
  exact ⟨rfl,H.out.drew.put (M':={ M with aready:=slept M.aready tt 5 }) (tk':=tk) 74 _ (by omega) rfl ⟨rfl,rfl,rfl,rfl,rfl⟩ HFI.out,Bt.set H.out.nd (Bt.kept (Bt.refl F w) H.out.big (st0 w).drew) 74 _⟩
 ·have he:M.cB tt=M:=by unfold Mach.cB;rw [if_pos hx]
  rw [he]
  have H:=hid h
  clear h ht he hx
  go_enter Tryz.func104,Tryz.ntmps104
  go_wp2
  go_end0
  exact ⟨rfl,H.out,Bt.refl F w⟩
theorem Ct.pt3 (h:Bd F w M tk) (hb:w.cell? ⟨b,0,none⟩=some (pt F.g 0)) (ht:M.clock<=tt/\tt<=M.clock+64):Calls Tryz.prog 105 #[.int .i64 tt,pt b 0] w λe w'=>e = .returned (.tuple #[])/\Bd F w' (M.cT tt) tk/\Bt F w w':=by
 have hwr:IntKind.i64.wrap (tt-M.clock)=tt-M.clock:=by rw [IntKind.wrap_i64];omega
 have H:=hid h
 have HT:=hid ht
 have HS:Hid (w.cell? ⟨b,0,none⟩=some (pt F.g 0)/\w.cell? ⟨F.g,72,none⟩=some (.int .i64 M.clock)/\w.rangeAt F.g 41 [.int .u16 M.t.r,.int .u16 M.t.c,.bool M.t.on,.bool M.t.g]):=hid ⟨hb,h.st4⟩
 clear h ht hb
 go_enter Tryz.func105,Tryz.ntmps105
 go_upto_region 0 with fail
 refine zac (S:=λw'=>w'.cell? ⟨b,0,none⟩=some (pt F.g 0)/\w'.cell? ⟨F.g,72,none⟩=some (.int .i64 M.clock)/\w'.rangeAt F.g 41 [.int .u16 M.t.r,.int .u16 M.t.c,.bool M.t.on,.bool M.t.g]) (st:=17) (by kernel_rfl) ?_
 have hS:=HS.out
 refine zaf (i:=0) (oi:=⟨some 4,_,_,_,_,none⟩) (v:=pt F.g 0) rfl (by kernel_rfl) (by kernel_rfl) (by kernel_rfl) (by kernel_rfl) (by decide) (by kernel_rfl) (λ_ _ _ h=>h) (Or.inl ⟨by rfl,?_⟩) hS ?_
 ·intro w' hSw
  have hcc:=hSw.1
  have hcz:=World.block_lt_of_cell? w' _ hcc
  go_simp
  try (with_reducible rfl)
 simp only [Act.put,xA,xB,xC]
 refine zaf (i:=1) (oi:=⟨some 5,_,_,_,_,none⟩) (v:=pt F.g 0) rfl (by kernel_rfl) (by kernel_rfl) (by kernel_rfl) (by kernel_rfl) (by decide) (by kernel_rfl) (λ_ _ _ h=>h) (Or.inl ⟨by rfl,?_⟩) hS ?_
 ·intro w' hSw
  have hcc:=hSw.1
  have hcz:=World.block_lt_of_cell? w' _ hcc
  go_simp
  try (with_reducible rfl)
 simp only [Act.put,xA,xB,xC]
 refine tqG 2 ⟨some 6,_,_,_,_,none⟩ (λ_=>hS) ?_
 simp only [Act.put,xA,xB,xC]
 refine tqG 3 ⟨some 7,_,_,_,_,none⟩ (λ_=>hS) ?_
 simp only [Act.put,xA,xB,xC]
 refine zaf (i:=4) (oi:=⟨some 8,_,_,_,_,none⟩) (v:=.agg ([.int .u16 M.t.r,.int .u16 M.t.c,.bool M.t.on,.bool M.t.g]).toArray) rfl (by kernel_rfl) (by kernel_rfl) (by kernel_rfl) (by kernel_rfl) (by decide) (by kernel_rfl) (λ_ _ _ h=>h) (Or.inl ⟨by rfl,λw' hSw=>zai 31 _ rfl F.g 41 rfl ([.int .u16 M.t.r,.int .u16 M.t.c,.bool M.t.on,.bool M.t.g]) _ hSw.2.2 Tryz.underlying31 rfl zbR⟩) hS ?_
 simp only [Act.put,xA,xB,xC]
 refine tqG 5 ⟨some 9,_,_,_,_,none⟩ (λ_=>hS) ?_
 simp only [Act.put,xA,xB,xC]
 refine zaf (i:=6) (oi:=⟨some 10,_,_,_,_,none⟩) (v:=pt F.g 0) rfl (by kernel_rfl) (by kernel_rfl) (by kernel_rfl) (by kernel_rfl) (by decide) (by kernel_rfl) (λ_ _ _ h=>h) (Or.inl ⟨by rfl,?_⟩) hS ?_
 ·intro w' hSw
  have hcc:=hSw.1
  have hcz:=World.block_lt_of_cell? w' _ hcc
  go_simp
  try (with_reducible rfl)
 simp only [Act.put,xA,xB,xC]
 refine tqG 7 ⟨some 11,_,_,_,_,none⟩ (λ_=>hS) ?_
 simp only [Act.put,xA,xB,xC]
 refine tqG 8 ⟨some 12,_,_,_,_,none⟩ (λ_=>hS) ?_
 simp only [Act.put,xA,xB,xC]
 refine zaf (i:=9) (oi:=⟨some 13,_,_,_,_,none⟩) (v:=.int .i64 M.clock) rfl (by kernel_rfl) (by kernel_rfl) (by kernel_rfl) (by kernel_rfl) (by decide) (by kernel_rfl) (λ_ _ _ h=>h) (Or.inl ⟨by rfl,?_⟩) hS ?_
 ·intro w' hSw
  have hcc:=hSw.2.1
  have hcz:=World.block_lt_of_cell? w' _ hcc
  go_simp
  try (with_reducible rfl)
 simp only [Act.put,xA,xB,xC]
 refine tqG 10 ⟨some 14,_,_,_,_,none⟩ (λ_=>hS) ?_
 simp only [Act.put,xA,xB,xC]
 refine zaa (i:=11) (o:=⟨some 15,_,_,_,_,none⟩) (by kernel_rfl) rfl (λK hK=>?_)
 go_simp
 go_at_call 106
 refine (Ct.runT H.out.fit (tt-M.clock) _ (by have:=HT.out;omega)).mono ?_
 rintro e w1 ⟨er,rfl,hb1⟩
 have HX1:=hid (H.out.drew.kept hb1)
 have HB1:=hid (stp (st0 w).drew hb1)
 have HS1:Hid (w1.cell? ⟨b,0,none⟩=some (pt F.g 0)/\w1.cell? ⟨F.g,72,none⟩=some (.int .i64 M.clock)/\w1.rangeAt F.g 41 [.int .u16 M.t.r,.int .u16 M.t.c,.bool M.t.on,.bool M.t.g]):=hid ⟨(hb1.cell (p:=⟨b,0,none⟩) (World.block_lt_of_cell? w _ HS.out.1)).trans HS.out.1,HX1.out.at 72 _ rfl,HX1.out.tmR⟩
 clear hb1
 try go_wp2_with fail
 refine hK.out _ _ (λ_=>HS1.out) ?_
 clear hK K
 try simp only [Act.put,xA,xB,xC]
 clear hS
 have hS:=HS1.out
 refine tqG 12 ⟨some 3,_,_,_,_,none⟩ (λ_=>hS) ?_
 simp only [Act.put,xA,xB,xC]
 refine tqG 13 ⟨some 16,_,_,_,_,none⟩ (λ_=>hS) ?_
 simp only [Act.put,xA,xB,xC]
 refine tqG 14 ⟨some 17,_,_,_,_,none⟩ (λ_=>hS) ?_
 simp only [Act.put,xA,xB,xC]
 refine tqG 15 ⟨some 18,_,_,_,_,none⟩ (λ_=>hS) ?_
 simp only [Act.put,xA,xB,xC]
 refine tqG 16 ⟨some 19,_,_,_,_,none⟩ (λ_=>hS) ?_
 simp only [Act.put,xA,xB,xC]
 refine zaa (i:=17) (o:=⟨none,_,_,_,_,none⟩) (by kernel_rfl) rfl (λK hK=>?_)
 refine zam rfl 31 _ _ rfl F.g 41 ([.int .u16 M.t.r,.int .u16 (rnC M.t.r M.t.c M.t.on (tt-M.clock)),.bool M.t.on,.bool (rnG M.t.c M.t.on M.t.g (tt-M.clock))]).toArray rfl rfl (Bx.there HX1.out.bx 41 4 (by rw [Fx.len];omega)) zbR (by simp [Value.oneCell']) ?_
 refine hK.out _ _ (λh=>by simp at h) ?_
 clear hK K
 refine zab (by kernel_rfl) ?_ _
 go_wp2
 go_end0
 exact ⟨rfl,HX1.out.puts (M':=M.cT tt) (tk':=tk) 41 [.int .u16 M.t.r,.int .u16 (rnC M.t.r M.t.c M.t.on (tt-M.clock)),.bool M.t.on,.bool (rnG M.t.c M.t.on M.t.g (tt-M.clock))] (by simp) rfl ⟨rfl,rfl,rfl,rfl,rfl⟩ (zpj H.out.fit HT.out.1),Bt.sets H.out.nd [.int .u16 M.t.r,.int .u16 (rnC M.t.r M.t.c M.t.on (tt-M.clock)),.bool M.t.on,.bool (rnG M.t.c M.t.on M.t.g (tt-M.clock))] 41 _ (Bt.kept (Bt.refl F w) H.out.big HB1.out)⟩
theorem Ct.pt4 (h:Bd F w M tk) (hb:w.cell? ⟨b,0,none⟩=some (pt F.g 0)) (ht:M.clock<=tt/\tt<=M.clock+64):Calls Tryz.prog 107 #[.int .i64 tt,pt b 0] w λe w'=>e = .returned (.tuple #[])/\Bd F w' (M.cE tt) tk/\Bt F w w':=by
 have hwr:IntKind.i64.wrap (tt-M.clock)=tt-M.clock:=by rw [IntKind.wrap_i64];omega
 obtain ⟨b1,hb1⟩:∃ x,x=M.b.run (tt-M.clock):=⟨_,rfl⟩
 have hr:∀ W,Calls Tryz.prog 66 #[.agg #[.int .i64 M.b.l,.int .i64 M.b.a,.bool M.b.g,.int .i64 M.b.f],.int .i64 (tt-M.clock)] W λe w'=>∃ y,e = .returned (.tuple #[.agg #[.int .i64 b1.l,.int .i64 b1.a,.bool b1.g,.int .i64 b1.f],.int .i64 y])/\Below W.heap.size W w':=λW=>by
  rw [hb1];exact Ct.runB M.b _ W (by omega)
 have he:M.cE tt={ M with b:=b1 }:=by unfold Mach.cE;rw [hb1]
 have hfit:=zpk (M:=M) (tt:=tt) h.fit ht.1 ht.2
 rw [he] at hfit ⊢
 have H:=hid h
 have HFI:=hid hfit
 have HR:=hid hr
 have HS:Hid (w.cell? ⟨b,0,none⟩=some (pt F.g 0)/\w.cell? ⟨F.g,72,none⟩=some (.int .i64 M.clock)/\w.rangeAt F.g 61 [.int .i64 M.b.l,.int .i64 M.b.a,.bool M.b.g,.int .i64 M.b.f]):=hid ⟨hb,h.sl⟩
 clear h ht hb hr hb1 he hfit
 go_enter Tryz.func107,Tryz.ntmps107
 go_upto_region 0 with fail
 refine zac (S:=λw'=>w'.cell? ⟨b,0,none⟩=some (pt F.g 0)/\w'.cell? ⟨F.g,72,none⟩=some (.int .i64 M.clock)/\w'.rangeAt F.g 61 [.int .i64 M.b.l,.int .i64 M.b.a,.bool M.b.g,.int .i64 M.b.f]) (st:=17) (by kernel_rfl) ?_
 have hS:=HS.out
 refine zaf (i:=0) (oi:=⟨some 4,_,_,_,_,none⟩) (v:=pt F.g 0) rfl (by kernel_rfl) (by kernel_rfl) (by kernel_rfl) (by kernel_rfl) (by decide) (by kernel_rfl) (λ_ _ _ h=>h) (Or.inl ⟨by rfl,?_⟩) hS ?_
 ·intro w' hSw
  have hcc:=hSw.1
  have hcz:=World.block_lt_of_cell? w' _ hcc
  go_simp
  try (with_reducible rfl)
 simp only [Act.put,xA,xB,xC]
 refine zaf (i:=1) (oi:=⟨some 5,_,_,_,_,none⟩) (v:=pt F.g 0) rfl (by kernel_rfl) (by kernel_rfl) (by kernel_rfl) (by kernel_rfl) (by decide) (by kernel_rfl) (λ_ _ _ h=>h) (Or.inl ⟨by rfl,?_⟩) hS ?_
 ·intro w' hSw
  have hcc:=hSw.1
  have hcz:=World.block_lt_of_cell? w' _ hcc
  go_simp
  try (with_reducible rfl)
 simp only [Act.put,xA,xB,xC]
 refine tqG 2 ⟨some 6,_,_,_,_,none⟩ (λ_=>hS) ?_
 simp only [Act.put,xA,xB,xC]
 refine tqG 3 ⟨some 7,_,_,_,_,none⟩ (λ_=>hS) ?_
 simp only [Act.put,xA,xB,xC]
 refine zaf (i:=4) (oi:=⟨some 8,_,_,_,_,none⟩) (v:=.agg ([.int .i64 M.b.l,.int .i64 M.b.a,.bool M.b.g,.int .i64 M.b.f]).toArray) rfl (by kernel_rfl) (by kernel_rfl) (by kernel_rfl) (by kernel_rfl) (by decide) (by kernel_rfl) (λ_ _ _ h=>h) (Or.inl ⟨by rfl,λw' hSw=>zai 38 _ rfl F.g 61 rfl ([.int .i64 M.b.l,.int .i64 M.b.a,.bool M.b.g,.int .i64 M.b.f]) _ hSw.2.2 Tryz.underlying38 rfl zcf⟩) hS ?_
 simp only [Act.put,xA,xB,xC]
 refine tqG 5 ⟨some 9,_,_,_,_,none⟩ (λ_=>hS) ?_
 simp only [Act.put,xA,xB,xC]
 refine zaf (i:=6) (oi:=⟨some 10,_,_,_,_,none⟩) (v:=pt F.g 0) rfl (by kernel_rfl) (by kernel_rfl) (by kernel_rfl) (by kernel_rfl) (by decide) (by kernel_rfl) (λ_ _ _ h=>h) (Or.inl ⟨by rfl,?_⟩) hS ?_
 ·intro w' hSw
  have hcc:=hSw.1
  have hcz:=World.block_lt_of_cell? w' _ hcc
  go_simp
  try (with_reducible rfl)
 simp only [Act.put,xA,xB,xC]
 refine tqG 7 ⟨some 11,_,_,_,_,none⟩ (λ_=>hS) ?_
 simp only [Act.put,xA,xB,xC]
 refine tqG 8 ⟨some 12,_,_,_,_,none⟩ (λ_=>hS) ?_
 simp only [Act.put,xA,xB,xC]
 refine zaf (i:=9) (oi:=⟨some 13,_,_,_,_,none⟩) (v:=.int .i64 M.clock) rfl (by kernel_rfl) (by kernel_rfl) (by kernel_rfl) (by kernel_rfl) (by decide) (by kernel_rfl) (λ_ _ _ h=>h) (Or.inl ⟨by rfl,?_⟩) hS ?_
 ·intro w' hSw
  have hcc:=hSw.2.1
  have hcz:=World.block_lt_of_cell? w' _ hcc
  go_simp
  try (with_reducible rfl)
 simp only [Act.put,xA,xB,xC]
 refine tqG 10 ⟨some 14,_,_,_,_,none⟩ (λ_=>hS) ?_
 simp only [Act.put,xA,xB,xC]
 refine zaa (i:=11) (o:=⟨some 15,_,_,_,_,none⟩) (by kernel_rfl) rfl (λK hK=>?_)
 go_simp
 go_at_call 66
 refine (HR.out _).mono ?_
 rintro e w1 ⟨er,rfl,hb1⟩
 have HX1:=hid (H.out.drew.kept hb1)
 have HB1:=hid (stp (st0 w).drew hb1)
 have HS1:Hid (w1.cell? ⟨b,0,none⟩=some (pt F.g 0)/\w1.cell? ⟨F.g,72,none⟩=some (.int .i64 M.clock)/\w1.rangeAt F.g 61 [.int .i64 M.b.l,.int .i64 M.b.a,.bool M.b.g,.int .i64 M.b.f]):=hid ⟨(hb1.cell (p:=⟨b,0,none⟩) (World.block_lt_of_cell? w _ HS.out.1)).trans HS.out.1,HX1.out.at 72 _ rfl,HX1.out.bmR⟩
 clear hb1
 try go_wp2_with fail
 refine hK.out _ _ (λ_=>HS1.out) ?_
 clear hK K
 try simp only [Act.put,xA,xB,xC]
 clear hS
 have hS:=HS1.out
 refine tqG 12 ⟨some 3,_,_,_,_,none⟩ (λ_=>hS) ?_
 simp only [Act.put,xA,xB,xC]
 refine tqG 13 ⟨some 16,_,_,_,_,none⟩ (λ_=>hS) ?_
 simp only [Act.put,xA,xB,xC]
 refine tqG 14 ⟨some 17,_,_,_,_,none⟩ (λ_=>hS) ?_
 simp only [Act.put,xA,xB,xC]
 refine tqG 15 ⟨some 18,_,_,_,_,none⟩ (λ_=>hS) ?_
 simp only [Act.put,xA,xB,xC]
 refine tqG 16 ⟨some 19,_,_,_,_,none⟩ (λ_=>hS) ?_
 simp only [Act.put,xA,xB,xC]
 refine zaa (i:=17) (o:=⟨none,_,_,_,_,none⟩) (by kernel_rfl) rfl (λK hK=>?_)
 refine zam rfl 38 _ _ rfl F.g 61 ([.int .i64 b1.l,.int .i64 b1.a,.bool b1.g,.int .i64 b1.f]).toArray rfl rfl (Bx.there HX1.out.bx 61 4 (by rw [Fx.len];omega)) zcf (by simp [Value.oneCell']) ?_
 refine hK.out _ _ (λh=>by simp at h) ?_
 clear hK K
 refine zab (by kernel_rfl) ?_ _
 go_wp2
 go_end0
 exact ⟨rfl,HX1.out.puts (M':={ M with b:=b1 }) (tk':=tk) 61 [.int .i64 b1.l,.int .i64 b1.a,.bool b1.g,.int .i64 b1.f] (by simp) rfl ⟨rfl,rfl,rfl,rfl,rfl⟩ HFI.out,Bt.sets H.out.nd [.int .i64 b1.l,.int .i64 b1.a,.bool b1.g,.int .i64 b1.f] 61 _ (Bt.kept (Bt.refl F w) H.out.big HB1.out)⟩
end
end Go.Proofs.YtbennamieealbaaGreatDoor
