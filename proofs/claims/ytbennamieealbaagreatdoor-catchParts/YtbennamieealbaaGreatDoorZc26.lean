/-
  Parts of a proof, joined.
-/
import Derived.Test.YtbennamieealbaaGreatDoorZc07
import Derived.Test.YtbennamieealbaaGreatDoorZc25
set_option linter.unusedVariables false
set_option maxRecDepth 100000
set_option maxHeartbeats 6400000
namespace Go.Proofs.YtbennamieealbaaGreatDoor
open Go.ChangeShapes Go.WideShapes Go.ChangeAt Go.RowKit
section
variable {F : Fx} {N c : Nat} {vco vln vsm : Value} {w w1 : World} {s s' : Bst}
structure XM (F : Fx) (N c : Nat) (vco vln vsm : Value) (w : World) (s : Bst) (M : Mach) (l : List Wt) (Y : World) : Prop where
 nm:NM F N w s ⟨M,0,l⟩ Y
 cb:CB F N c vco vln vsm Y
theorem XM.i {M:Mach} {l:List Wt} {Y:World} (h:XM F N c vco vln vsm w s M l Y):BI F N Y ⟨M,0,l⟩:=h.nm.i
theorem XM.ss {M:Mach} {l:List Wt} {Y:World} {tg bg:Bool} (h:XM F N c vco vln vsm w s M l Y) (e1:M.t.g=tg) (e2:M.b.g=bg):Y.cell? ⟨c,5,none⟩=some (pt F.g 0)/\Y.rangeAt F.g 0 (cpuL M.main)/\Y.cell? ⟨F.g,44,none⟩=some (.bool tg)/\Y.cell? ⟨F.g,63,none⟩=some (.bool bg):=by
 obtain ⟨v,hB⟩:=h.nm.i.bd
 subst e1
 subst e2
 exact ⟨h.cb.bx.at 5 _ rfl,hB.mainR,hB.at 44 _ rfl,hB.at 63 _ rfl⟩
theorem XM.kept' {M:Mach} {l:List Wt} {Y Y':World} (hF:Fb F N) (h:XM F N c vco vln vsm w s M l Y) (hb:Below Y.heap.size Y Y'):XM F N c vco vln vsm w s M l Y':=⟨h.nm.trans (NM.refl hF h.nm.i hb),h.cb.kept hb⟩
structure XN (F : Fx) (N c : Nat) (vco vln vsm : Value) (w : World) (s s' : Bst) (Y : World) : Prop where
 nm:NM F N w s s' Y
 cb:CB F N c vco vln vsm Y
theorem Lk.stepMain (hF:Fb F N) (hI:BI F N w s) (hc:CB F N c vco vln vsm w):Calls Tryz.prog 62 #[pt c 0] w λe w'=>e = .returned (.tuple #[])/\NM F N w s s.stepMain w':=by
 have k0:=hc.bx.at 0 _ rfl
 have k5:=hc.bx.at 5 _ rfl
 have kz:=hc.z
 obtain ⟨v,hB⟩:=hI.bd
 obtain ⟨M,n,l⟩:=s
 have m72:=hB.at 72 (.int .i64 M.clock) rfl
 have m73:=hB.at 73 (.int .i64 M.mready) rfl
 have m75:=hB.at 75 (.int .i64 n) rfl
 have mz:=hB.bx.z
 have mf:=hB.bx.f 75
 have HF:=hid hF
 have HI:=hid hI
 have HC:=hid hc
 have HB:=hid hB
 clear hF hI hc hB
 by_cases hr:M.clock<M.mready
 ·have e0:Bst.stepMain ⟨M,n,l⟩=⟨M,n,l⟩:=by unfold Bst.stepMain;exact if_pos hr
  rw [e0]
  go_enter Tryz.func62,Tryz.ntmps62
  go_wp2
  go_quiet (fail)
  go_wp2
  exact bodyPost_ret (v:=.tuple #[]) (by simp [results,Tryz.results62,go_sem]) rfl ⟨rfl,NM.refl HF.out HI.out (Bl.drewN (st0 w) nq)⟩
 ·obtain ⟨y,hy⟩:∃ y,y=C.step mainMem M.main ⟨M,0,l⟩ (M.t.g || M.b.g):=⟨_,rfl⟩
  obtain ⟨M3,hM3⟩:∃ M3:Mach,M3={ y.s.M with main:=y.c }:=⟨_,rfl⟩
  have e0:Bst.stepMain ⟨M,n,l⟩=⟨{ M3 with mready:=M3.clock+3*y.n+y.s.n },y.s.n,y.s.l⟩:=by rw [hM3,hy];unfold Bst.stepMain;exact if_neg hr
  rw [e0]
  have HM3:=hid hM3
  clear hM3
  have hr':M.mready<=M.clock:=by omega
  obtain ⟨tg,htg⟩:∃ b,M.t.g=b:=⟨_,rfl⟩
  obtain ⟨bg,hbg⟩:∃ b,M.b.g=b:=⟨_,rfl⟩
  have hfu:4<=mainMem.fuel ⟨M,0,l⟩:=by show 4<=(1000000000000-(0:Int)).toNat/510;decide
  have hdo:∀ W,BI F N W ⟨M,0,l⟩->Calls Tryz.prog 112 #[.agg (cpuL M.main).toArray,reachV F.g 77,.bool (M.t.g || M.b.g)] W λe w'=>e = .returned (.tuple #[.agg (cpuL y.c).toArray,.int .i64 y.n])/\BI F N w' y.s/\Mv F.B (Tw (BT N) W ⟨M,0,l⟩) (Tw (BT N) w' y.s) W w'/\y.c.ok:=λW h=>by
   rw [hy]
   exact zpw (zgr HF.out) (M.t.g || M.b.g) W M.main ⟨M,0,l⟩ HB.out.fit.main hfu h
  rw [htg,hbg] at hdo
  have hyn:0<=y.n/\y.n<=21:=by rw [hy];exact C.step_n _ _ _ (rk_bd _ (zgc (zgr HF.out) _ _)).1
  have hfl:mainMem.fuel ⟨M,0,l⟩<=mainMem.fuel y.s+4:=by rw [hy];exact C.fuel_step (zgr HF.out).frd (zgr HF.out).fwr _ _ _
  have hsn:y.s.n<=2550:=by
   have h0:(1000000000000-(0:Int)).toNat/510<=(1000000000000-y.s.n).toNat/510+4:=hfl
   omega
  have HD:=hid hdo
  have HTG:=hid htg
  have HBG:=hid hbg
  have HYN:=hid hyn
  have HSN:=hid hsn
  clear htg hbg hy e0 hfu hdo hfl hr hyn hsn
  go_enter Tryz.func62,Tryz.ntmps62
  go_wp2
  go_quiet (fail)
  go_upto_region 4 with fail
  have hB0:=(HB.out.drewN nq).put (M':=M) (tk':=⟨0,l,v⟩) 75 (.int .i64 0) (by omega) rfl ⟨rfl,rfl,rfl,rfl,rfl⟩ HB.out.fit
  refine Pl.cutW (XM F N c vco vln vsm w ⟨M,n,l⟩ M l) ⟨NM.of HF.out HI.out (Int.le_refl 0) hB0 (Bt.set HB.out.nd (Bt.kept (Bt.refl F w) HB.out.big (Bl.drewN (st0 w) nq)) 75 _),HC.out.same (zab (W:=w.drewN nq) (λe=>by have:=HC.out.n;have:=HF.out.into.g;omega))⟩ ?_
  intro Y hY
  have HX:=hid (hY.kept' HF.out (st0 Y).drew)
  have hS:=(hY.kept' HF.out (st0 Y).drew).ss HTG.out HBG.out
  clear hY hB0 HB HI HC k0 k5 kz m72 m73 m75 mz mf hr'
  refine zaN (S:=λw'=>w'.cell? ⟨c,5,none⟩=some (pt F.g 0)/\w'.rangeAt F.g 0 (cpuL M.main)/\w'.cell? ⟨F.g,44,none⟩=some (.bool tg)/\w'.cell? ⟨F.g,63,none⟩=some (.bool bg)) (st:=22) (by kernel_rfl) ?_
  refine tqG 0 ⟨some 24,_,_,_,_,none⟩ (λ_=>hS) ?_
  simp only [Act.put,xA,xB,xC]
  refine tqG 1 ⟨some 25,_,_,_,_,none⟩ (λ_=>hS) ?_
  simp only [Act.put,xA,xB,xC]
  refine tqG 2 ⟨some 26,_,_,_,_,none⟩ (λ_=>hS) ?_
  simp only [Act.put,xA,xB,xC]
  refine tqG 3 ⟨some 27,_,_,_,_,none⟩ (λ_=>hS) ?_
  simp only [Act.put,xA,xB,xC]
  refine tqG 5 ⟨some 29,_,_,_,_,none⟩ (λ_=>hS) ?_
  simp only [Act.put,xA,xB,xC]
  refine tqG 6 ⟨some 30,_,_,_,_,none⟩ (λ_=>hS) ?_
  simp only [Act.put,xA,xB,xC]
  refine tqG 7 ⟨some 31,_,_,_,_,none⟩ (λ_=>hS) ?_
  simp only [Act.put,xA,xB,xC]
  refine tqG 10 ⟨some 34,_,_,_,_,none⟩ (λ_=>hS) ?_
  simp only [Act.put,xA,xB,xC]
  refine tqG 11 ⟨some 35,_,_,_,_,none⟩ (λ_=>hS) ?_
  simp only [Act.put,xA,xB,xC]
  refine tqG 12 ⟨some 36,_,_,_,_,none⟩ (λ_=>hS) ?_
  simp only [Act.put,xA,xB,xC]
  refine tqG 13 ⟨some 37,_,_,_,_,none⟩ (λ_=>hS) ?_
  simp only [Act.put,xA,xB,xC]
  refine zac (i:=4) (oi:=⟨some 28,_,_,_,_,none⟩) (v:=.agg (cpuL M.main).toArray) rfl (by kernel_rfl) (by kernel_rfl) (by kernel_rfl) (by kernel_rfl) (by decide) (by kernel_rfl) (λ_ _ _ h=>h) (Or.inl ⟨by rfl,λw' hSw=>zaf 25 _ rfl F.g 0 rfl (cpuL M.main) _ hSw.2.1 Tryz.underlying25 rfl zbf⟩) hS ?_
  simp only [Act.put,xA,xB,xC]
  refine zbB 9 (i:=8) (oi:=⟨some 32,_,_,_,_,none⟩) (v:=pt F.g 0) rfl (by kernel_rfl) (by kernel_rfl) (by kernel_rfl) (by kernel_rfl) (by kernel_rfl) (by decide) (by decide) (by kernel_rfl) (by kernel_rfl) (λ_ _ _ h=>h) (Or.inl ⟨by rfl,?_⟩) hS ?_
  ·intro w' hSw
   have hcc:=hSw.1
   have hcz:=World.block_lt_of_cell? w' _ hcc
   go_simp
   try (with_reducible rfl)
  simp only [Act.put,xA,xB,xC]
  refine zbB 15 (i:=14) (oi:=⟨some 38,_,_,_,_,none⟩) (v:=.bool tg) rfl (by kernel_rfl) (by kernel_rfl) (by kernel_rfl) (by kernel_rfl) (by kernel_rfl) (by decide) (by decide) (by kernel_rfl) (by kernel_rfl) (λ_ _ _ h=>h) (Or.inl ⟨by rfl,?_⟩) hS ?_
  ·intro w' hSw
   have hcc:=hSw.2.2.1
   have hcz:=World.block_lt_of_cell? w' _ hcc
   go_simp
   try (with_reducible rfl)
  simp only [Act.put,xA,xB,xC]
  refine zam (i:=9) (o:=⟨some 33,_,_,_,_,none⟩) (by kernel_rfl) rfl (λK hK=>?_)
  go_simp
  go_at_call 53
  refine (zdW F.g _).mono ?_
  rintro e w1 ⟨rfl,hb1⟩
  have HX1:=hid (HX.out.kept' HF.out hb1)
  clear hb1
  try go_wp2_with fail
  refine hK.out _ _ (λ_=>HX1.out.ss HTG.out HBG.out) ?_
  clear hK K
  try simp only [Act.put,xA,xB,xC]
  clear hS
  have hS:=HX1.out.ss HTG.out HBG.out
  refine tqG 15 ⟨some 39,_,_,_,_,none⟩ (λ_=>hS) ?_
  simp only [Act.put,xA,xB,xC]
  cases tg
  case' false =>
   refine tqG 16 { dst:=some 40,op:=_,type:=_,pos:=_,after:=_,guard:=some (15,false) } (λ_=>hS) ?_
   simp only [Act.put,xA,xB,xC]
   refine tqG 17 { dst:=some 41,op:=_,type:=_,pos:=_,after:=_,guard:=some (15,false) } (λ_=>hS) ?_
   simp only [Act.put,xA,xB,xC]
   refine tqG 18 { dst:=some 42,op:=_,type:=_,pos:=_,after:=_,guard:=some (15,false) } (λ_=>hS) ?_
   simp only [Act.put,xA,xB,xC]
   refine tqG 19 { dst:=some 43,op:=_,type:=_,pos:=_,after:=_,guard:=some (15,false) } (λ_=>hS) ?_
   simp only [Act.put,xA,xB,xC]
   refine zbB 21 (i:=20) (oi:={ dst:=some 44,op:=_,type:=_,pos:=_,after:=_,guard:=some (15,false) }) (v:=.bool bg) rfl (by kernel_rfl) (by kernel_rfl) (by kernel_rfl) (by kernel_rfl) (by kernel_rfl) (by decide) (by decide) (by kernel_rfl) (by kernel_rfl) (λ_ _ _ h=>h) (Or.inl ⟨by rfl,?_⟩) hS ?_
   ·intro w' hSw
    have hcc:=hSw.2.2.2
    have hcz:=World.block_lt_of_cell? w' _ hcc
    go_simp
    try (with_reducible rfl)
   simp only [Act.put,xA,xB,xC]
  case' true =>
   refine zaX (i:=16) (oi:={ dst:=some 40,op:=_,type:=_,pos:=_,after:=_,guard:=some (15,false) }) (v:=undef) rfl (by kernel_rfl) (by kernel_rfl) (by kernel_rfl) (by decide) (λ_ _ _ h=>h) (Or.inr ⟨by rfl,rfl⟩) (λ_=>hS) ?_
   simp only [Act.put,xA,xB,xC]
   refine zaX (i:=17) (oi:={ dst:=some 41,op:=_,type:=_,pos:=_,after:=_,guard:=some (15,false) }) (v:=undef) rfl (by kernel_rfl) (by kernel_rfl) (by kernel_rfl) (by decide) (λ_ _ _ h=>h) (Or.inr ⟨by rfl,rfl⟩) (λ_=>hS) ?_
   simp only [Act.put,xA,xB,xC]
   refine zaX (i:=18) (oi:={ dst:=some 42,op:=_,type:=_,pos:=_,after:=_,guard:=some (15,false) }) (v:=undef) rfl (by kernel_rfl) (by kernel_rfl) (by kernel_rfl) (by decide) (λ_ _ _ h=>h) (Or.inr ⟨by rfl,rfl⟩) (λ_=>hS) ?_
   simp only [Act.put,xA,xB,xC]
   refine zaX (i:=19) (oi:={ dst:=some 43,op:=_,type:=_,pos:=_,after:=_,guard:=some (15,false) }) (v:=undef) rfl (by kernel_rfl) (by kernel_rfl) (by kernel_rfl) (by decide) (λ_ _ _ h=>h) (Or.inr ⟨by rfl,rfl⟩) (λ_=>hS) ?_
   simp only [Act.put,xA,xB,xC]
   refine zaX (i:=20) (oi:={ dst:=some 44,op:=_,type:=_,pos:=_,after:=_,guard:=some (15,false) }) (v:=undef) rfl (by kernel_rfl) (by kernel_rfl) (by kernel_rfl) (by decide) (λ_ _ _ h=>h) (Or.inr ⟨by rfl,rfl⟩) (λ_=>hS) ?_
   simp only [Act.put,xA,xB,xC]
  all_goals
   refine tqG 21 ⟨some 45,_,_,_,_,none⟩ (λ_=>hS) ?_
   simp only [Act.put,xA,xB,xC]
   refine zam (i:=22) (o:=⟨some 46,_,_,_,_,none⟩) (by kernel_rfl) rfl (λK hK=>?_)
   go_simp
   go_at_call 112
   refine (HD.out _ HX1.out.i).mono ?_
   rintro e w2 ⟨rfl,hI2,hm2,hk2⟩
   have HI2:=hid hI2
   have HM2:=hid hm2
   have HK2:=hid hk2
   clear hI2 hm2 hk2
   try go_wp2_with fail
   refine hK.out _ _ (λh=>by simp at h) ?_
   clear hK K
   try simp only [Act.put,xA,xB,xC]
   refine tqG 23 ⟨some 23,_,_,_,_,none⟩ (λh=>by simp at h) ?_
   simp only [Act.put,xA,xB,xC]
   refine tqG 24 ⟨some 47,_,_,_,_,none⟩ (λh=>by simp at h) ?_
   simp only [Act.put,xA,xB,xC]
   refine tqG 25 ⟨some 48,_,_,_,_,none⟩ (λh=>by simp at h) ?_
   simp only [Act.put,xA,xB,xC]
   refine tqG 26 ⟨some 49,_,_,_,_,none⟩ (λh=>by simp at h) ?_
   simp only [Act.put,xA,xB,xC]
   refine tqG 27 ⟨some 50,_,_,_,_,none⟩ (λh=>by simp at h) ?_
   simp only [Act.put,xA,xB,xC]
   obtain ⟨v2,hB2⟩:=HI2.out.bd
   have HB2:=hid hB2
   clear hB2
   refine zam (i:=28) (o:=⟨none,_,_,_,_,none⟩) (by kernel_rfl) rfl (λK hK=>?_)
   refine zao rfl 25 _ _ rfl F.g 0 (cpuL y.c).toArray rfl rfl (Bx.there HB2.out.bx 0 15 (by rw [Fx.len];omega)) zbf (zmz y.c) ?_
   refine hK.out _ _ (λh=>by simp at h) ?_
   clear hK K
   refine tqG 29 ⟨some 3,_,_,_,_,none⟩ (λh=>by simp at h) ?_
   simp only [Act.put,xA,xB,xC]
   refine zaM (by kernel_rfl) ?_ _
   refine Pl.cutE (XN F N c vco vln vsm w ⟨M,n,l⟩ ⟨M3,y.s.n,y.s.l⟩) ?_ ?_
   ·have hx:NM F N w1 ⟨M,0,l⟩ ⟨M3,y.s.n,y.s.l⟩ (w2.setCells F.g 0 (cpuL y.c)):=(⟨HI2.out,HM2.out⟩:NM F N w1 ⟨M,0,l⟩ y.s w2).trans (NM.of (s':=⟨M3,y.s.n,y.s.l⟩) HF.out HI2.out HI2.out.n (by rw [HM3.out];exact HB2.out.puts (M':={ y.s.M with main:=y.c }) (tk':=⟨y.s.n,y.s.l,v2⟩) 0 (cpuL y.c) (by simp [cpuL]) (F.putMain y.s.M _ y.c) ⟨rfl,rfl,rfl,rfl,rfl⟩ { HB2.out.fit with main:=HK2.out,aux:=HB2.out.fit.aux }) (Bt.sets HB2.out.nd (cpuL y.c) 0 _ (Bt.refl F w2)))
    exact ⟨HX1.out.nm.trans hx,hx.cb HX1.out.cb⟩
   intro V hV
   obtain ⟨v3,hB3⟩:=hV.nm.i.bd
   have k5:=hV.cb.bx.at 5 _ rfl
   have kz:=hV.cb.z
   have m72:=hB3.at 72 (.int .i64 M3.clock) rfl
   have m75:=hB3.at 75 (.int .i64 y.s.n) rfl
   have m73:=hB3.at 73 (.int .i64 M3.mready) rfl
   have mz:=hB3.bx.z
   have mf:=hB3.bx.f 73
   have hcl:0<=M3.clock/\M3.clock<=200000:=hB3.fit.clock
   have hne:c≠F.g:=λe=>by have:=hV.cb.n;have:=HF.out.into.g;omega
   have hne':F.g≠c:=λe=>hne e.symm
   have hn0:0<=y.s.n:=hV.nm.i.n
   have hyn:=HYN.out
   have hsn:=HSN.out
   have w1':IntKind.i64.wrap (3*y.n)=3*y.n:=by rw [IntKind.wrap_i64];omega
   have w2':IntKind.i64.wrap (M3.clock+3*y.n)=M3.clock+3*y.n:=by rw [IntKind.wrap_i64];omega
   have w3':IntKind.i64.wrap (M3.clock+3*y.n+y.s.n)=M3.clock+3*y.n+y.s.n:=by rw [IntKind.wrap_i64];omega
   have hfit:Mach.fit { M3 with mready:=M3.clock+3*y.n+y.s.n }:={ hB3.fit with main:=hB3.fit.main,mready:=by show 0<=M3.clock+3*y.n+y.s.n/\M3.clock+3*y.n+y.s.n<=M3.clock+20000;omega }
   have HV:=hid hV
   have HB3:=hid hB3
   have HFI:=hid hfit
   have HKP:Hid (∀ u,(V.setCell ⟨F.g,73,none⟩ u).drew.cell? ⟨c,5,none⟩=some (pt F.g 0)/\(V.setCell ⟨F.g,73,none⟩ u).drew.cell? ⟨F.g,72,none⟩=some (.int .i64 M3.clock)/\(V.setCell ⟨F.g,73,none⟩ u).drew.cell? ⟨F.g,75,none⟩=some (.int .i64 y.s.n)):=λu=>⟨(World.cell?_of_block (w:=V) (zab hne)).trans k5,(World.cell?_setCell_other _ _ _ _ (by simp)).trans m72,(World.cell?_setCell_other _ _ _ _ (by simp)).trans m75⟩
   clear hV hB3 hfit HX HX1 HI2 HM2 HK2 HB2 HD hS hyn hsn hcl hn0
   go_wp2
   go_region_held3 (λw'=>w'.cell? ⟨c,5,none⟩=some (pt F.g 0)/\w'.cell? ⟨F.g,72,none⟩=some (.int .i64 M3.clock)/\w'.cell? ⟨F.g,75,none⟩=some (.int .i64 y.s.n))
    (first|(go_keep;done)|with_reducible exact HKP.out _)
    (fail)
   go_wp2
   go_end0
   refine ⟨rfl,HV.out.nm.trans (NM.of (s':=⟨{ M3 with mready:=M3.clock+3*y.n+y.s.n },y.s.n,y.s.l⟩) HF.out HV.out.nm.i HV.out.nm.i.n (v:=v3) ?_ ?_)⟩
   ·exact (HB3.out.drew).put (M':={ M3 with mready:=M3.clock+3*y.n+y.s.n }) (tk':=⟨y.s.n,y.s.l,v3⟩) 73 _ (by omega) rfl ⟨rfl,rfl,rfl,rfl,rfl⟩ HFI.out
   ·exact Bt.set HB3.out.nd (Bt.kept (Bt.refl F V) HB3.out.big (st0 V).drew) 73 _
end
section
variable {F : Fx} {N c : Nat} {vco vln vsm : Value} {w w1 : World} {s s' : Bst}
theorem XN.kept' {Y Y':World} (hF:Fb F N) (h:XN F N c vco vln vsm w s s' Y) (hb:Below Y.heap.size Y Y'):XN F N c vco vln vsm w s s' Y':=⟨h.nm.trans (NM.refl hF h.nm.i hb),h.cb.kept hb⟩
theorem XN.sa {M:Mach} {n:Int} {l:List Wt} {Y:World} (h:XN F N c vco vln vsm w s ⟨M,n,l⟩ Y):Y.cell? ⟨c,5,none⟩=some (pt F.g 0)/\Y.rangeAt F.g 15 (cpuL M.aux)/\Y.cell? ⟨F.g,71,none⟩=some (.bool M.rung):=by
 obtain ⟨v,hB⟩:=h.nm.i.bd
 exact ⟨h.cb.bx.at 5 _ rfl,hB.auxR,hB.at 71 _ rfl⟩
theorem Lk.stepAux (hF:Fb F N) (hI:BI F N w s) (hc:CB F N c vco vln vsm w) (hl:s.l.length<=1000000):Calls Tryz.prog 63 #[pt c 0] w λe w'=>e = .returned (.tuple #[])/\NM F N w s s.stepAux w':=by
 have k0:=hc.bx.at 0 _ rfl
 have kz:=hc.z
 obtain ⟨v,hB⟩:=hI.bd
 obtain ⟨M,n,l⟩:=s
 have m72:=hB.at 72 (.int .i64 M.clock) rfl
 have m74:=hB.at 74 (.int .i64 M.aready) rfl
 have mz:=hB.bx.z
 have HF:=hid hF
 have HI:=hid hI
 have HC:=hid hc
 have HB:=hid hB
 clear hF hI hc
 by_cases hh:M.held=true
 ·have m68:w.cell? ⟨F.g,68,none⟩=some (.bool true):=by rw [<- hh];exact hB.at 68 (.bool M.held) rfl
  have e0:Bst.stepAux ⟨M,n,l⟩=⟨M,n,l⟩:=by unfold Bst.stepAux;exact if_pos (Or.inl hh)
  rw [e0]
  clear hB hh hl
  go_enter Tryz.func63,Tryz.ntmps63
  go_wp2
  go_quiet (fail)
  go_wp2
  exact bodyPost_ret (v:=.tuple #[]) (by simp [results,Tryz.results63,go_sem]) rfl ⟨rfl,NM.refl HF.out HI.out (Bl.drewN (st0 w) nq)⟩
 ·have hh':M.held=false:=by simpa using hh
  have m68:w.cell? ⟨F.g,68,none⟩=some (.bool false):=by rw [<- hh'];exact hB.at 68 (.bool M.held) rfl
  by_cases hr:M.clock<M.aready
  ·have e0:Bst.stepAux ⟨M,n,l⟩=⟨M,n,l⟩:=by unfold Bst.stepAux;exact if_pos (Or.inr hr)
   rw [e0]
   clear hB hh hh' hl
   go_enter Tryz.func63,Tryz.ntmps63
   go_wp2
   go_quiet (fail)
   go_wp2
   exact bodyPost_ret (v:=.tuple #[]) (by simp [results,Tryz.results63,go_sem]) rfl ⟨rfl,NM.refl HF.out HI.out (Bl.drewN (st0 w) nq)⟩
  ·obtain ⟨y,hy⟩:∃ y,y=C.step auxMem M.aux ⟨M,n,l⟩ M.rung:=⟨_,rfl⟩
   obtain ⟨M3,hM3⟩:∃ M3:Mach,M3={ y.s.M with aux:=y.c }:=⟨_,rfl⟩
   have e0:Bst.stepAux ⟨M,n,l⟩=⟨{ M3 with aready:=M3.clock+5*y.n },y.s.n,y.s.l⟩:=by
    rw [hM3,hy];unfold Bst.stepAux
    exact if_neg (λe=>e.elim hh hr)
   rw [e0]
   have HM3:=hid hM3
   have hr':M.aready<=M.clock:=by omega
   have hfu:4<=auxMem.fuel ⟨M,n,l⟩:=by
    show 4<=1000000001-l.length
    have:l.length<=1000000:=hl
    omega
   have hdo:∀ W,BI F N W ⟨M,n,l⟩->Calls Tryz.prog 112 #[.agg (cpuL M.aux).toArray,reachV F.g 143,.bool M.rung] W λe w'=>e = .returned (.tuple #[.agg (cpuL y.c).toArray,.int .i64 y.n])/\BI F N w' y.s/\Mv F.B (Tw (BT N) W ⟨M,n,l⟩) (Tw (BT N) w' y.s) W w'/\y.c.ok:=λW h=>by
    rw [hy]
    exact zpw (zjg HF.out) M.rung W M.aux ⟨M,n,l⟩ HB.out.fit.aux hfu h
   have hyn:0<=y.n/\y.n<=21:=by rw [hy];exact C.step_n _ _ _ (rk_bd _ (zgc (zjg HF.out) _ _)).1
   have HD:=hid hdo
   have HYN:=hid hyn
   clear hM3 hy e0 hfu hdo hr hyn hh hh' hB hl
   go_enter Tryz.func63,Tryz.ntmps63
   go_wp2
   go_quiet (fail)
   go_upto_region 3 with fail
   refine Pl.cutW (XN F N c vco vln vsm w ⟨M,n,l⟩ ⟨M,n,l⟩) ⟨NM.refl HF.out HI.out (Bl.drewN (st0 w) nq),HC.out.kept (Bl.drewN (st0 w) nq)⟩ ?_
   intro Y hY
   have HX:=hid (hY.kept' HF.out (st0 Y).drew)
   have hS:=(hY.kept' HF.out (st0 Y).drew).sa
   clear hY HB HI HC k0 kz m72 m74 m68 mz hr'
   refine zaN (S:=λw'=>w'.cell? ⟨c,5,none⟩=some (pt F.g 0)/\w'.rangeAt F.g 15 (cpuL M.aux)/\w'.cell? ⟨F.g,71,none⟩=some (.bool M.rung)) (st:=14) (by kernel_rfl) ?_
   refine tqG 0 ⟨some 24,_,_,_,_,none⟩ (λ_=>hS) ?_
   simp only [Act.put,xA,xB,xC]
   refine tqG 1 ⟨some 25,_,_,_,_,none⟩ (λ_=>hS) ?_
   simp only [Act.put,xA,xB,xC]
   refine tqG 2 ⟨some 26,_,_,_,_,none⟩ (λ_=>hS) ?_
   simp only [Act.put,xA,xB,xC]
   refine tqG 3 ⟨some 27,_,_,_,_,none⟩ (λ_=>hS) ?_
   simp only [Act.put,xA,xB,xC]
   refine tqG 5 ⟨some 29,_,_,_,_,none⟩ (λ_=>hS) ?_
   simp only [Act.put,xA,xB,xC]
   refine tqG 6 ⟨some 30,_,_,_,_,none⟩ (λ_=>hS) ?_
   simp only [Act.put,xA,xB,xC]
   refine tqG 7 ⟨some 31,_,_,_,_,none⟩ (λ_=>hS) ?_
   simp only [Act.put,xA,xB,xC]
   refine tqG 10 ⟨some 34,_,_,_,_,none⟩ (λ_=>hS) ?_
   simp only [Act.put,xA,xB,xC]
   refine tqG 11 ⟨some 35,_,_,_,_,none⟩ (λ_=>hS) ?_
   simp only [Act.put,xA,xB,xC]
   refine tqG 12 ⟨some 36,_,_,_,_,none⟩ (λ_=>hS) ?_
   simp only [Act.put,xA,xB,xC]
   refine zac (i:=4) (oi:=⟨some 28,_,_,_,_,none⟩) (v:=.agg (cpuL M.aux).toArray) rfl (by kernel_rfl) (by kernel_rfl) (by kernel_rfl) (by kernel_rfl) (by decide) (by kernel_rfl) (λ_ _ _ h=>h) (Or.inl ⟨by rfl,λw' hSw=>zaf 25 _ rfl F.g 15 rfl (cpuL M.aux) _ hSw.2.1 Tryz.underlying25 rfl zbf⟩) hS ?_
   simp only [Act.put,xA,xB,xC]
   refine zbB 9 (i:=8) (oi:=⟨some 32,_,_,_,_,none⟩) (v:=pt F.g 0) rfl (by kernel_rfl) (by kernel_rfl) (by kernel_rfl) (by kernel_rfl) (by kernel_rfl) (by decide) (by decide) (by kernel_rfl) (by kernel_rfl) (λ_ _ _ h=>h) (Or.inl ⟨by rfl,?_⟩) hS ?_
   ·intro w' hSw
    have hcc:=hSw.1
    have hcz:=World.block_lt_of_cell? w' _ hcc
    go_simp
    try (with_reducible rfl)
   simp only [Act.put,xA,xB,xC]
   refine zac (i:=13) (oi:=⟨some 37,_,_,_,_,none⟩) (v:=.bool M.rung) rfl (by kernel_rfl) (by kernel_rfl) (by kernel_rfl) (by kernel_rfl) (by decide) (by kernel_rfl) (λ_ _ _ h=>h) (Or.inl ⟨by rfl,?_⟩) hS ?_
   ·intro w' hSw
    have hcc:=hSw.2.2
    have hcz:=World.block_lt_of_cell? w' _ hcc
    go_simp
    try (with_reducible rfl)
   simp only [Act.put,xA,xB,xC]
   refine zam (i:=9) (o:=⟨some 33,_,_,_,_,none⟩) (by kernel_rfl) rfl (λK hK=>?_)
   go_simp
   go_at_call 113
   refine (ze7 F.g _).mono ?_
   rintro e w1 ⟨rfl,hb1⟩
   have HX1:=hid (HX.out.kept' HF.out hb1)
   clear hb1
   try go_wp2_with fail
   refine hK.out _ _ (λ_=>HX1.out.sa) ?_
   clear hK K
   try simp only [Act.put,xA,xB,xC]
   clear hS
   have hS:=HX1.out.sa
   refine zam (i:=14) (o:=⟨some 38,_,_,_,_,none⟩) (by kernel_rfl) rfl (λK hK=>?_)
   go_simp
   go_at_call 112
   refine (HD.out _ HX1.out.nm.i).mono ?_
   rintro e w2 ⟨rfl,hI2,hm2,hk2⟩
   have HI2:=hid hI2
   have HM2:=hid hm2
   have HK2:=hid hk2
   clear hI2 hm2 hk2
   try go_wp2_with fail
   refine hK.out _ _ (λh=>by simp at h) ?_
   clear hK K
   try simp only [Act.put,xA,xB,xC]
   refine tqG 15 ⟨some 23,_,_,_,_,none⟩ (λh=>by simp at h) ?_
   simp only [Act.put,xA,xB,xC]
   refine tqG 16 ⟨some 39,_,_,_,_,none⟩ (λh=>by simp at h) ?_
   simp only [Act.put,xA,xB,xC]
   refine tqG 17 ⟨some 40,_,_,_,_,none⟩ (λh=>by simp at h) ?_
   simp only [Act.put,xA,xB,xC]
   refine tqG 18 ⟨some 41,_,_,_,_,none⟩ (λh=>by simp at h) ?_
   simp only [Act.put,xA,xB,xC]
   refine tqG 19 ⟨some 42,_,_,_,_,none⟩ (λh=>by simp at h) ?_
   simp only [Act.put,xA,xB,xC]
   obtain ⟨v2,hB2⟩:=HI2.out.bd
   have HB2:=hid hB2
   clear hB2
   refine zam (i:=20) (o:=⟨none,_,_,_,_,none⟩) (by kernel_rfl) rfl (λK hK=>?_)
   refine zao rfl 25 _ _ rfl F.g 15 (cpuL y.c).toArray rfl rfl (Bx.there HB2.out.bx 15 15 (by rw [Fx.len];omega)) zbf (zmz y.c) ?_
   refine hK.out _ _ (λh=>by simp at h) ?_
   clear hK K
   refine tqG 21 ⟨some 3,_,_,_,_,none⟩ (λh=>by simp at h) ?_
   simp only [Act.put,xA,xB,xC]
   refine zaM (by kernel_rfl) ?_ _
   refine Pl.cutE (XN F N c vco vln vsm w ⟨M,n,l⟩ ⟨M3,y.s.n,y.s.l⟩) ?_ ?_
   ·have hx:NM F N w1 ⟨M,n,l⟩ ⟨M3,y.s.n,y.s.l⟩ (w2.setCells F.g 15 (cpuL y.c)):=(⟨HI2.out,HM2.out⟩:NM F N w1 ⟨M,n,l⟩ y.s w2).trans (NM.of (s':=⟨M3,y.s.n,y.s.l⟩) HF.out HI2.out HI2.out.n (by rw [HM3.out];exact HB2.out.puts (M':={ y.s.M with aux:=y.c }) (tk':=⟨y.s.n,y.s.l,v2⟩) 15 (cpuL y.c) (by simp [cpuL]) (F.putAux y.s.M _ y.c) ⟨rfl,rfl,rfl,rfl,rfl⟩ { HB2.out.fit with main:=HB2.out.fit.main,aux:=HK2.out }) (Bt.sets HB2.out.nd (cpuL y.c) 15 _ (Bt.refl F w2)))
    exact ⟨HX1.out.nm.trans hx,hx.cb HX1.out.cb⟩
   intro V hV
   obtain ⟨v3,hB3⟩:=hV.nm.i.bd
   have m72:=hB3.at 72 (.int .i64 M3.clock) rfl
   have m74:=hB3.at 74 (.int .i64 M3.aready) rfl
   have mz:=hB3.bx.z
   have mf:=hB3.bx.f 74
   have hcl:0<=M3.clock/\M3.clock<=200000:=hB3.fit.clock
   have hyn:=HYN.out
   have w1':IntKind.i64.wrap (5*y.n)=5*y.n:=by rw [IntKind.wrap_i64];omega
   have w2':IntKind.i64.wrap (M3.clock+5*y.n)=M3.clock+5*y.n:=by rw [IntKind.wrap_i64];omega
   have hfit:Mach.fit { M3 with aready:=M3.clock+5*y.n }:={ hB3.fit with main:=hB3.fit.main,aready:=by show 0<=M3.clock+5*y.n/\M3.clock+5*y.n<=M3.clock+20000;omega }
   have HV:=hid hV
   have HB3:=hid hB3
   have HFI:=hid hfit
   clear hV hB3 hfit HX HX1 HI2 HM2 HK2 HB2 HD hS hyn hcl
   go_wp2
   go_end0
   refine ⟨rfl,HV.out.nm.trans (NM.of (s':=⟨{ M3 with aready:=M3.clock+5*y.n },y.s.n,y.s.l⟩) HF.out HV.out.nm.i HV.out.nm.i.n (v:=v3) ?_ ?_)⟩
   ·exact HB3.out.put (M':={ M3 with aready:=M3.clock+5*y.n }) (tk':=⟨y.s.n,y.s.l,v3⟩) 74 _ (by omega) rfl ⟨rfl,rfl,rfl,rfl,rfl⟩ HFI.out
   ·exact Bt.set HB3.out.nd (Bt.refl F V) 74 _
end
def InpAt (B:Nat) (w:World) (v:Value) (l:List Inp):Prop :=
 (l=[] /\ ∃ a c,v = .slice a 0 c) \/ ∃ g o cap,v = .slice (some ⟨g,o,none⟩) l.length cap/\l.length<=cap/\g<B/\g<w.heap.size /\
  ∀ j x,l[j]? = some x->w.cell? ⟨g,o+3*j,none⟩=some (.int .i64 x.c)/\w.cell? ⟨g,o+3*j+1,none⟩=some (.int .i64 x.p)/\w.cell? ⟨g,o+3*j+2,none⟩=some (.int .u8 x.d)
structure Inp.ok (x : Inp) : Prop where
 p:x.p=0 \/ x.p=1
 d:0<=x.d/\x.d<=255
theorem InpAt.kept {B:Nat} {w w1:World} {v:Value} {l:List Inp} (h:InpAt B w v l) (hb:Below B w w1):InpAt B w1 v l:=by
 rcases h with h|⟨g,o,cap,h1,h2,h3,h4,h5⟩
 ·exact Or.inl h
 ·refine Or.inr ⟨g,o,cap,h1,h2,h3,Nat.lt_of_lt_of_le h4 hb.size,λj x hj=>?_⟩
  obtain ⟨e1,e2,e3⟩:=h5 j x hj
  exact ⟨(World.cell?_of_block (w:=w) (hb.block g h3)).trans e1,(World.cell?_of_block (w:=w) (hb.block g h3)).trans e2,(World.cell?_of_block (w:=w) (hb.block g h3)).trans e3⟩
theorem zcy (M:Mach) (x:Inp):(M.press x).clock=M.clock:=by unfold Mach.press;split <;> rfl
theorem zbG {M:Mach} {x:Inp} {l:List Inp} (h:x.c<=M.clock):M.pressed (x::l)=(M.press x).pressed l:=if_pos h
theorem zdp (M:Mach) (x:Inp):∀ l:List Inp,(M.press x).coming l=M.coming l
 | []=>rfl
 | y::l=>by
  show (if y.c<=(M.press x).clock then (M.press x).coming l else y::l)=if y.c<=M.clock then M.coming l else y::l
  rw [zcy,zdp M x l]
theorem zbW {M:Mach} {x:Inp} {l:List Inp} (h:x.c<=M.clock):M.coming (x::l)=(M.press x).coming l:=by
 rw [zdp];exact if_pos h
theorem zdq {M:Mach} {x:Inp} {l:List Inp} (h:¬ x.c<=M.clock):M.pressed (x::l)=M:=if_neg h
theorem zd2 {M:Mach} {x:Inp} {l:List Inp} (h:¬ x.c<=M.clock):M.coming (x::l)=x::l:=if_neg h
theorem zhO {M:Mach} (h:M.fit) {x:Inp} (hx:x.ok):(M.press x).fit:=by
 unfold Mach.press
 split
 ·exact { h with main:=h.main,p0:=Pd.press_ok h.p0 hx.d }
 ·exact { h with main:=h.main,p1:=Pd.press_ok h.p1 hx.d }
section
variable {F : Fx} {N c : Nat} {vco vln vsm : Value} {w w1 w2 : World} {s s' s2 : Bst}
structure KM (F : Fx) (N c : Nat) (w : World) (s s' : Bst) (w1 : World) : Prop where
 i:BI F N w1 s'
 m:Mv F.B (λk=>k=c \/ Tw (BT N) w s k) (λk=>k=c \/ Tw (BT N) w1 s' k) w w1
theorem NM.km (h:NM F N w s s' w1):KM F N c w s s' w1:=⟨h.i,h.m.also c⟩
theorem KM.trans (h:KM F N c w s s' w1) (k:KM F N c w1 s' s2 w2):KM F N c w s s2 w2:=⟨k.i,h.m.trans k.m⟩
theorem KM.set (hF:Fb F N) (h:KM F N c w s s' w1) (hB:F.B<=c) (hc:CB F N c vco vln vsm w1) (i:Nat) (v:Value):KM F N c w s s' (w1.setCell ⟨c,i,none⟩ v) :=
 ⟨h.i.keep hF (by rw [zas];exact Nat.le_refl _) (λk hk=>zab (λe=>hc.out (by rw [<- e];exact hk))),(Mv.setCell h.m hB (Or.inl (Or.inl rfl)) v).weak (λk hk=>Or.inl (hk.imp id Tw.set))⟩
theorem CB.put1 (h:CB F N c vco vln vsm w) (v:Value):CB F N c v vln vsm (w.setCell ⟨c,1,none⟩ v):=⟨h.n,by rw [zbR h.blk];rfl⟩
theorem CB.put2 (h:CB F N c vco vln vsm w) (v:Value):CB F N c vco v vsm (w.setCell ⟨c,2,none⟩ v):=⟨h.n,by rw [zbR h.blk];rfl⟩
theorem CB.put3 (h:CB F N c vco vln vsm w) (v:Value):CB F N c vco vln v (w.setCell ⟨c,3,none⟩ v):=⟨h.n,by rw [zbR h.blk];rfl⟩
theorem CB.big (h:CB F N c vco vln vsm w) (hI:BI F N w s) (hF:Fb F N):F.B<=c:=by
 obtain ⟨v,hB⟩:=hI.bd
 have:=hB.nd.lo.1
 have:=hF.into.g
 have:=h.n
 omega
theorem zmA (p:Pd):(#[.int .u8 p.d,.bool p.l,.int .u8 p.s]:Array Value).all (·.oneCell')=true:=by simp [Value.oneCell']
theorem Bd.pad0 {W:World} {M:Mach} {tk:Tk} (h:Bd F W M tk):W.rangeAt F.g 35 [.int .u8 M.p0.d,.bool M.p0.l,.int .u8 M.p0.s]:=λi v hi=>by
 refine h.at (35+i) v ?_
 have hl:=(List.getElem?_eq_some_iff.1 hi).1
 have hc:i=0 \/ i=1 \/ i=2:=by simp at hl;omega
 rcases hc with rfl|rfl|rfl <;> exact hi
theorem Bd.pad1 {W:World} {M:Mach} {tk:Tk} (h:Bd F W M tk):W.rangeAt F.g 38 [.int .u8 M.p1.d,.bool M.p1.l,.int .u8 M.p1.s]:=λi v hi=>by
 refine h.at (38+i) v ?_
 have hl:=(List.getElem?_eq_some_iff.1 hi).1
 have hc:i=0 \/ i=1 \/ i=2:=by simp at hl;omega
 rcases hc with rfl|rfl|rfl <;> exact hi
end
end Go.Proofs.YtbennamieealbaaGreatDoor
