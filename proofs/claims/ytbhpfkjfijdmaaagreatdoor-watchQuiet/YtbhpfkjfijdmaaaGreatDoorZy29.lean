/-
  Parts of a proof, joined.
-/
import Derived.Test.YtbhpfkjfijdmaaaGreatDoorZy28
namespace Go.Proofs.YtbhpfkjfijdmaaaGreatDoor
open Go.ChangeShapes Go.WideShapes Go.ChangeAt Go.RowKit
set_option linter.unusedVariables false
set_option maxRecDepth 100000
set_option maxHeartbeats 6400000
section
variable {F : Fx} {N c : Nat} {vco vln vsm : Value} {w w1 : World} {s s' : Bst}
structure XM (F : Fx) (N c : Nat) (vco vln vsm : Value) (w : World) (s : Bst) (M : Mach) (l : List Wt) (Y : World) : Prop where
 nm:NM F N w s ⟨M,0,l⟩ Y
 cb:CB F N c vco vln vsm Y
theorem XM.i {M:Mach} {l:List Wt} {Y:World} (h:XM F N c vco vln vsm w s M l Y):BI F N Y ⟨M,0,l⟩:=h.nm.i
theorem XM.ss {M:Mach} {l:List Wt} {Y:World} {tg bg:Bool} (h:XM F N c vco vln vsm w s M l Y) (e1:M.t.g=tg) (e2:M.b.g=bg):Y.cell? ⟨c,5,none⟩=some (pt F.g 0)/\Y.rangeAt F.g 0 (cpuL M.main)/\Y.cell? ⟨F.g,44,none⟩=some (.bool tg)/\Y.cell? ⟨F.g,63,none⟩=some (.bool bg):=by
 obtain ⟨v,hB⟩:=h.nm.i.bd
 subst e1
 subst e2
 exact ⟨h.cb.bx.at 5 _ rfl,hB.mainR,hB.at 44 _ rfl,hB.at 63 _ rfl⟩
theorem XM.kept' {M:Mach} {l:List Wt} {Y Y':World} (hF:Fb F N) (h:XM F N c vco vln vsm w s M l Y) (hb:Below Y.heap.size Y Y'):XM F N c vco vln vsm w s M l Y':=⟨h.nm.trans (NM.refl hF h.nm.i hb),h.cb.kept hb⟩
structure XN (F : Fx) (N c : Nat) (vco vln vsm : Value) (w : World) (s s' : Bst) (Y : World) : Prop where
 nm:NM F N w s s' Y
 cb:CB F N c vco vln vsm Y
theorem Lk.stepMain (hF:Fb F N) (hI:BI F N w s) (hc:CB F N c vco vln vsm w):Calls Tryz.prog 52 #[pt c 0] w fun e w'=>e = .returned (.tuple #[])/\NM F N w s s.stepMain w':=by
 have k0:=hc.bx.at 0 _ rfl
 have k5:=hc.bx.at 5 _ rfl
 have kz:=hc.z
 obtain ⟨v,hB⟩:=hI.bd
 obtain ⟨M,n,l⟩:=s
 have m72:=hB.at 72 (.int .i64 M.clock) rfl
 have m73:=hB.at 73 (.int .i64 M.mready) rfl
 have m75:=hB.at 75 (.int .i64 n) rfl
 have mz:=hB.bx.z
 have mf:=hB.bx.f 75
 have HF:=hid hF
 have HI:=hid hI
 have HC:=hid hc
 have HB:=hid hB
 clear hF hI hc hB
 by_cases hr:M.clock < M.mready
 ·have e0:Bst.stepMain ⟨M,n,l⟩=⟨M,n,l⟩:=by unfold Bst.stepMain;exact if_pos hr
  rw [e0]
  go_enter Tryz.func52,Tryz.ntmps52
  go_wp2
  go_quiet (fail)
  go_wp2
  exact bodyPost_ret (v:=.tuple #[]) (by simp [results,Tryz.results52,go_sem]) rfl ⟨rfl,NM.refl HF.out HI.out (Bl.drewN (st0 w) nq)⟩
 ·obtain ⟨y,hy⟩:∃ y,y=C.step mainMem M.main ⟨M,0,l⟩ (M.t.g || M.b.g):=⟨_,rfl⟩
  obtain ⟨M3,hM3⟩:∃ M3:Mach,M3={ y.s.M with main:=y.c }:=⟨_,rfl⟩
  have e0:Bst.stepMain ⟨M,n,l⟩=⟨{ M3 with mready:=M3.clock+3 * y.n+y.s.n },y.s.n,y.s.l⟩:=by rw [hM3,hy];unfold Bst.stepMain;exact if_neg hr
  rw [e0]
  have HM3:=hid hM3
  clear hM3
  have hr':M.mready<=M.clock:=by omega
  obtain ⟨tg,htg⟩:∃ b,M.t.g=b:=⟨_,rfl⟩
  obtain ⟨bg,hbg⟩:∃ b,M.b.g=b:=⟨_,rfl⟩
  have hfu:4<=mainMem.fuel ⟨M,0,l⟩:=by show 4<=(1000000000000 - (0:Int)).toNat / 510;decide
  have hdo:∀ W,BI F N W ⟨M,0,l⟩->Calls Tryz.prog 86 #[.agg (cpuL M.main).toArray,reachV F.g 77,.bool (M.t.g || M.b.g)] W fun e w'=>e = .returned (.tuple #[.agg (cpuL y.c).toArray,.int .i64 y.n])/\BI F N w' y.s/\Mv F.B (Tw (BT N) W ⟨M,0,l⟩) (Tw (BT N) w' y.s) W w'/\y.c.ok:=fun W h=>by
   rw [hy]
   exact do_any (main_rs HF.out) (M.t.g || M.b.g) W M.main ⟨M,0,l⟩ HB.out.fit.main hfu h
  rw [htg,hbg] at hdo
  have hyn:0<=y.n/\y.n<=21:=by rw [hy];exact C.step_n _ _ _ (rk_bd _ (word1_bd (main_rs HF.out) _ _)).1
  have hfl:mainMem.fuel ⟨M,0,l⟩<=mainMem.fuel y.s+4:=by rw [hy];exact C.fuel_step (main_rs HF.out).frd (main_rs HF.out).fwr _ _ _
  have hsn:y.s.n<=2550:=by
   have h0:(1000000000000 - (0:Int)).toNat / 510<=(1000000000000 - y.s.n).toNat / 510+4:=hfl
   omega
  have HD:=hid hdo
  have HTG:=hid htg
  have HBG:=hid hbg
  have HYN:=hid hyn
  have HSN:=hid hsn
  clear htg hbg hy e0 hfu hdo hfl hr hyn hsn
  go_enter Tryz.func52,Tryz.ntmps52
  go_wp2
  go_quiet (fail)
  go_upto_region 4 with fail
  have hB0:=(HB.out.drewN nq).put (M':=M) (tk':=⟨0,l,v⟩) 75 (.int .i64 0) (by omega) rfl ⟨rfl,rfl,rfl,rfl,rfl⟩ HB.out.fit
  refine Pl.cutW (XM F N c vco vln vsm w ⟨M,n,l⟩ M l) ⟨NM.of HF.out HI.out (Int.le_refl 0) hB0 (Bt.set HB.out.nd (Bt.kept (Bt.refl F w) HB.out.big (Bl.drewN (st0 w) nq)) 75 _),HC.out.same (heap_set_far (W:=w.drewN nq) (fun e=>by have:=HC.out.n;have:=HF.out.into.g;omega))⟩ ?_
  intro Y hY
  have HX:=hid (hY.kept' HF.out (st0 Y).drew)
  have hS:=(hY.kept' HF.out (st0 Y).drew).ss HTG.out HBG.out
  clear hY hB0 HB HI HC k0 k5 kz m72 m73 m75 mz mf hr'
  cases tg
  ·refine wp_region_G (S:=fun w'=>w'.cell? ⟨c,5,none⟩=some (pt F.g 0)/\w'.rangeAt F.g 0 (cpuL M.main)/\w'.cell? ⟨F.g,44,none⟩=some (.bool false)/\w'.cell? ⟨F.g,63,none⟩=some (.bool bg)) (st:=22) (by kernel_rfl) ?_
   refine wpAnyG_pure (i:=0) (oi:=⟨some 24,_,_,_,_,none⟩) (v:=?_) rfl (by kernel_rfl) (by kernel_rfl) (by kernel_rfl) (by decide) (fun _ _ _ h=>h) (Or.inl ⟨by rfl,?_⟩) (fun _=>hS) ?_
   rotate_left 1
   focus (intro w hSw;go_simp;try (with_reducible rfl))
   simp only [Act.put,xA,xB,xC]
   refine wpAnyG_pure (i:=1) (oi:=⟨some 25,_,_,_,_,none⟩) (v:=?_) rfl (by kernel_rfl) (by kernel_rfl) (by kernel_rfl) (by decide) (fun _ _ _ h=>h) (Or.inl ⟨by rfl,?_⟩) (fun _=>hS) ?_
   rotate_left 1
   focus (intro w hSw;go_simp;try (with_reducible rfl))
   simp only [Act.put,xA,xB,xC]
   refine wpAnyG_pure (i:=2) (oi:=⟨some 26,_,_,_,_,none⟩) (v:=?_) rfl (by kernel_rfl) (by kernel_rfl) (by kernel_rfl) (by decide) (fun _ _ _ h=>h) (Or.inl ⟨by rfl,?_⟩) (fun _=>hS) ?_
   rotate_left 1
   focus (intro w hSw;go_simp;try (with_reducible rfl))
   simp only [Act.put,xA,xB,xC]
   refine wpAnyG_pure (i:=3) (oi:=⟨some 27,_,_,_,_,none⟩) (v:=?_) rfl (by kernel_rfl) (by kernel_rfl) (by kernel_rfl) (by decide) (fun _ _ _ h=>h) (Or.inl ⟨by rfl,?_⟩) (fun _=>hS) ?_
   rotate_left 1
   focus (intro w hSw;go_simp;try (with_reducible rfl))
   simp only [Act.put,xA,xB,xC]
   refine wpAnyG_pure (i:=5) (oi:=⟨some 29,_,_,_,_,none⟩) (v:=?_) rfl (by kernel_rfl) (by kernel_rfl) (by kernel_rfl) (by decide) (fun _ _ _ h=>h) (Or.inl ⟨by rfl,?_⟩) (fun _=>hS) ?_
   rotate_left 1
   focus (intro w hSw;go_simp;try (with_reducible rfl))
   simp only [Act.put,xA,xB,xC]
   refine wpAnyG_pure (i:=6) (oi:=⟨some 30,_,_,_,_,none⟩) (v:=?_) rfl (by kernel_rfl) (by kernel_rfl) (by kernel_rfl) (by decide) (fun _ _ _ h=>h) (Or.inl ⟨by rfl,?_⟩) (fun _=>hS) ?_
   rotate_left 1
   focus (intro w hSw;go_simp;try (with_reducible rfl))
   simp only [Act.put,xA,xB,xC]
   refine wpAnyG_pure (i:=7) (oi:=⟨some 31,_,_,_,_,none⟩) (v:=?_) rfl (by kernel_rfl) (by kernel_rfl) (by kernel_rfl) (by decide) (fun _ _ _ h=>h) (Or.inl ⟨by rfl,?_⟩) (fun _=>hS) ?_
   rotate_left 1
   focus (intro w hSw;go_simp;try (with_reducible rfl))
   simp only [Act.put,xA,xB,xC]
   refine wpAnyG_pure (i:=10) (oi:=⟨some 34,_,_,_,_,none⟩) (v:=?_) rfl (by kernel_rfl) (by kernel_rfl) (by kernel_rfl) (by decide) (fun _ _ _ h=>h) (Or.inl ⟨by rfl,?_⟩) (fun _=>hS) ?_
   rotate_left 1
   focus (intro w hSw;go_simp;try (with_reducible rfl))
   simp only [Act.put,xA,xB,xC]
   refine wpAnyG_pure (i:=11) (oi:=⟨some 35,_,_,_,_,none⟩) (v:=?_) rfl (by kernel_rfl) (by kernel_rfl) (by kernel_rfl) (by decide) (fun _ _ _ h=>h) (Or.inl ⟨by rfl,?_⟩) (fun _=>hS) ?_
   rotate_left 1
   focus (intro w hSw;go_simp;try (with_reducible rfl))
   simp only [Act.put,xA,xB,xC]
   refine wpAnyG_pure (i:=12) (oi:=⟨some 36,_,_,_,_,none⟩) (v:=?_) rfl (by kernel_rfl) (by kernel_rfl) (by kernel_rfl) (by decide) (fun _ _ _ h=>h) (Or.inl ⟨by rfl,?_⟩) (fun _=>hS) ?_
   rotate_left 1
   focus (intro w hSw;go_simp;try (with_reducible rfl))
   simp only [Act.put,xA,xB,xC]
   refine wpAnyG_pure (i:=13) (oi:=⟨some 37,_,_,_,_,none⟩) (v:=?_) rfl (by kernel_rfl) (by kernel_rfl) (by kernel_rfl) (by decide) (fun _ _ _ h=>h) (Or.inl ⟨by rfl,?_⟩) (fun _=>hS) ?_
   rotate_left 1
   focus (intro w hSw;go_simp;try (with_reducible rfl))
   simp only [Act.put,xA,xB,xC]
   refine wpAnyG_take (i:=4) (oi:=⟨some 28,_,_,_,_,none⟩) (v:=.agg (cpuL M.main).toArray) rfl (by kernel_rfl) (by kernel_rfl) (by kernel_rfl) (by kernel_rfl) (by decide) (by kernel_rfl) (fun _ _ _ h=>h) (Or.inl ⟨by rfl,fun w' hSw=>exec_load_mid 25 _ rfl F.g 0 rfl (cpuL M.main) _ hSw.2.1 Tryz.underlying25 rfl info_cpuC⟩) hS ?_
   simp only [Act.put,xA,xB,xC]
   refine wpAnyG_take2 9 (i:=8) (oi:=⟨some 32,_,_,_,_,none⟩) (v:=pt F.g 0) rfl (by kernel_rfl) (by kernel_rfl) (by kernel_rfl) (by kernel_rfl) (by kernel_rfl) (by decide) (by decide) (by kernel_rfl) (by kernel_rfl) (fun _ _ _ h=>h) (Or.inl ⟨by rfl,?_⟩) hS ?_
   ·intro w' hSw
    have hcc:=hSw.1
    have hcz:=World.block_lt_of_cell? w' _ hcc
    go_simp
    try (with_reducible rfl)
   simp only [Act.put,xA,xB,xC]
   refine wpAnyG_take2 15 (i:=14) (oi:=⟨some 38,_,_,_,_,none⟩) (v:=.bool false) rfl (by kernel_rfl) (by kernel_rfl) (by kernel_rfl) (by kernel_rfl) (by kernel_rfl) (by decide) (by decide) (by kernel_rfl) (by kernel_rfl) (fun _ _ _ h=>h) (Or.inl ⟨by rfl,?_⟩) hS ?_
   ·intro w' hSw
    have hcc:=hSw.2.2.1
    have hcz:=World.block_lt_of_cell? w' _ hcc
    go_simp
    try (with_reducible rfl)
   simp only [Act.put,xA,xB,xC]
   refine wpAnyG_one (i:=9) (o:=⟨some 33,_,_,_,_,none⟩) (by kernel_rfl) rfl (fun K hK=>?_)
   go_simp
   go_at_call 47
   refine (Bu.main_any F.g _).mono ?_
   rintro e w1 ⟨rfl,hb1⟩
   have HX1:=hid (HX.out.kept' HF.out hb1)
   clear hb1
   try go_wp2_with fail
   refine hK.out _ _ (fun _=>HX1.out.ss HTG.out HBG.out) ?_
   clear hK K
   try simp only [Act.put,xA,xB,xC]
   clear hS
   have hS:=HX1.out.ss HTG.out HBG.out
   refine wpAnyG_pure (i:=15) (oi:=⟨some 39,_,_,_,_,none⟩) (v:=?_) rfl (by kernel_rfl) (by kernel_rfl) (by kernel_rfl) (by decide) (fun _ _ _ h=>h) (Or.inl ⟨by rfl,?_⟩) (fun _=>hS) ?_
   rotate_left 1
   focus (intro w hSw;go_simp;try (with_reducible rfl))
   simp only [Act.put,xA,xB,xC]
   refine wpAnyG_pure (i:=16) (oi:={ dst:=some 40,op:=_,type:=_,pos:=_,after:=_,guard:=some (15,false) }) (v:=?_) rfl (by kernel_rfl) (by kernel_rfl) (by kernel_rfl) (by decide) (fun _ _ _ h=>h) (Or.inl ⟨by rfl,?_⟩) (fun _=>hS) ?_
   rotate_left 1
   focus (intro w hSw;go_simp;try (with_reducible rfl))
   simp only [Act.put,xA,xB,xC]
   refine wpAnyG_pure (i:=17) (oi:={ dst:=some 41,op:=_,type:=_,pos:=_,after:=_,guard:=some (15,false) }) (v:=?_) rfl (by kernel_rfl) (by kernel_rfl) (by kernel_rfl) (by decide) (fun _ _ _ h=>h) (Or.inl ⟨by rfl,?_⟩) (fun _=>hS) ?_
   rotate_left 1
   focus (intro w hSw;go_simp;try (with_reducible rfl))
   simp only [Act.put,xA,xB,xC]
   refine wpAnyG_pure (i:=18) (oi:={ dst:=some 42,op:=_,type:=_,pos:=_,after:=_,guard:=some (15,false) }) (v:=?_) rfl (by kernel_rfl) (by kernel_rfl) (by kernel_rfl) (by decide) (fun _ _ _ h=>h) (Or.inl ⟨by rfl,?_⟩) (fun _=>hS) ?_
   rotate_left 1
   focus (intro w hSw;go_simp;try (with_reducible rfl))
   simp only [Act.put,xA,xB,xC]
   refine wpAnyG_pure (i:=19) (oi:={ dst:=some 43,op:=_,type:=_,pos:=_,after:=_,guard:=some (15,false) }) (v:=?_) rfl (by kernel_rfl) (by kernel_rfl) (by kernel_rfl) (by decide) (fun _ _ _ h=>h) (Or.inl ⟨by rfl,?_⟩) (fun _=>hS) ?_
   rotate_left 1
   focus (intro w hSw;go_simp;try (with_reducible rfl))
   simp only [Act.put,xA,xB,xC]
   refine wpAnyG_take2 21 (i:=20) (oi:={ dst:=some 44,op:=_,type:=_,pos:=_,after:=_,guard:=some (15,false) }) (v:=.bool bg) rfl (by kernel_rfl) (by kernel_rfl) (by kernel_rfl) (by kernel_rfl) (by kernel_rfl) (by decide) (by decide) (by kernel_rfl) (by kernel_rfl) (fun _ _ _ h=>h) (Or.inl ⟨by rfl,?_⟩) hS ?_
   ·intro w' hSw
    have hcc:=hSw.2.2.2
    have hcz:=World.block_lt_of_cell? w' _ hcc
    go_simp
    try (with_reducible rfl)
   simp only [Act.put,xA,xB,xC]
   refine wpAnyG_pure (i:=21) (oi:=⟨some 45,_,_,_,_,none⟩) (v:=?_) rfl (by kernel_rfl) (by kernel_rfl) (by kernel_rfl) (by decide) (fun _ _ _ h=>h) (Or.inl ⟨by rfl,?_⟩) (fun _=>hS) ?_
   rotate_left 1
   focus (intro w hSw;go_simp;try (with_reducible rfl))
   simp only [Act.put,xA,xB,xC]
   refine wpAnyG_one (i:=22) (o:=⟨some 46,_,_,_,_,none⟩) (by kernel_rfl) rfl (fun K hK=>?_)
   go_simp
   go_at_call 86
   refine (HD.out _ HX1.out.i).mono ?_
   rintro e w2 ⟨rfl,hI2,hm2,hk2⟩
   have HI2:=hid hI2
   have HM2:=hid hm2
   have HK2:=hid hk2
   clear hI2 hm2 hk2
   try go_wp2_with fail
   refine hK.out _ _ (fun h=>by simp at h) ?_
   clear hK K
   try simp only [Act.put,xA,xB,xC]
   refine wpAnyG_pure (i:=23) (oi:=⟨some 23,_,_,_,_,none⟩) (v:=?_) rfl (by kernel_rfl) (by kernel_rfl) (by kernel_rfl) (by decide) (fun _ _ _ h=>h) (Or.inl ⟨by rfl,?_⟩) (fun h=>by simp at h) ?_
   rotate_left 1
   focus (intro w hSw;go_simp;try (with_reducible rfl))
   simp only [Act.put,xA,xB,xC]
   refine wpAnyG_pure (i:=24) (oi:=⟨some 47,_,_,_,_,none⟩) (v:=?_) rfl (by kernel_rfl) (by kernel_rfl) (by kernel_rfl) (by decide) (fun _ _ _ h=>h) (Or.inl ⟨by rfl,?_⟩) (fun h=>by simp at h) ?_
   rotate_left 1
   focus (intro w hSw;go_simp;try (with_reducible rfl))
   simp only [Act.put,xA,xB,xC]
   refine wpAnyG_pure (i:=25) (oi:=⟨some 48,_,_,_,_,none⟩) (v:=?_) rfl (by kernel_rfl) (by kernel_rfl) (by kernel_rfl) (by decide) (fun _ _ _ h=>h) (Or.inl ⟨by rfl,?_⟩) (fun h=>by simp at h) ?_
   rotate_left 1
   focus (intro w hSw;go_simp;try (with_reducible rfl))
   simp only [Act.put,xA,xB,xC]
   refine wpAnyG_pure (i:=26) (oi:=⟨some 49,_,_,_,_,none⟩) (v:=?_) rfl (by kernel_rfl) (by kernel_rfl) (by kernel_rfl) (by decide) (fun _ _ _ h=>h) (Or.inl ⟨by rfl,?_⟩) (fun h=>by simp at h) ?_
   rotate_left 1
   focus (intro w hSw;go_simp;try (with_reducible rfl))
   simp only [Act.put,xA,xB,xC]
   refine wpAnyG_pure (i:=27) (oi:=⟨some 50,_,_,_,_,none⟩) (v:=?_) rfl (by kernel_rfl) (by kernel_rfl) (by kernel_rfl) (by decide) (fun _ _ _ h=>h) (Or.inl ⟨by rfl,?_⟩) (fun h=>by simp at h) ?_
   rotate_left 1
   focus (intro w hSw;go_simp;try (with_reducible rfl))
   simp only [Act.put,xA,xB,xC]
   obtain ⟨v2,hB2⟩:=HI2.out.bd
   have HB2:=hid hB2
   clear hB2
   refine wpAnyG_one (i:=28) (o:=⟨none,_,_,_,_,none⟩) (by kernel_rfl) rfl (fun K hK=>?_)
   refine step_store_mid rfl 25 _ _ rfl F.g 0 (cpuL y.c).toArray rfl rfl (Bx.there HB2.out.bx 0 15 (by rw [Fx.len];omega)) info_cpuC (cpu_one y.c) ?_
   refine hK.out _ _ (fun h=>by simp at h) ?_
   clear hK K
   refine wpAnyG_pure (i:=29) (oi:=⟨some 3,_,_,_,_,none⟩) (v:=?_) rfl (by kernel_rfl) (by kernel_rfl) (by kernel_rfl) (by decide) (fun _ _ _ h=>h) (Or.inl ⟨by rfl,?_⟩) (fun h=>by simp at h) ?_
   rotate_left 1
   focus (intro w hSw;go_simp;try (with_reducible rfl))
   simp only [Act.put,xA,xB,xC]
   refine wpAnyG_done (by kernel_rfl) ?_ _
   refine Pl.cutE (XN F N c vco vln vsm w ⟨M,n,l⟩ ⟨M3,y.s.n,y.s.l⟩) ?_ ?_
   ·have hx:NM F N w1 ⟨M,0,l⟩ ⟨M3,y.s.n,y.s.l⟩ (w2.setCells F.g 0 (cpuL y.c)):=(⟨HI2.out,HM2.out⟩:NM F N w1 ⟨M,0,l⟩ y.s w2).trans (NM.of (s':=⟨M3,y.s.n,y.s.l⟩) HF.out HI2.out HI2.out.n (by rw [HM3.out];exact HB2.out.puts (M':={ y.s.M with main:=y.c }) (tk':=⟨y.s.n,y.s.l,v2⟩) 0 (cpuL y.c) (by simp [cpuL]) (F.putMain y.s.M _ y.c) ⟨rfl,rfl,rfl,rfl,rfl⟩ { HB2.out.fit with main:=HK2.out,aux:=HB2.out.fit.aux }) (Bt.sets HB2.out.nd (cpuL y.c) 0 _ (Bt.refl F w2)))
    exact ⟨HX1.out.nm.trans hx,hx.cb HX1.out.cb⟩
   intro V hV
   obtain ⟨v3,hB3⟩:=hV.nm.i.bd
   have k5:=hV.cb.bx.at 5 _ rfl
   have kz:=hV.cb.z
   have m72:=hB3.at 72 (.int .i64 M3.clock) rfl
   have m75:=hB3.at 75 (.int .i64 y.s.n) rfl
   have m73:=hB3.at 73 (.int .i64 M3.mready) rfl
   have mz:=hB3.bx.z
   have mf:=hB3.bx.f 73
   have hcl:0<=M3.clock/\M3.clock<=200000:=hB3.fit.clock
   have hne:c ≠ F.g:=fun e=>by have:=hV.cb.n;have:=HF.out.into.g;omega
   have hne':F.g ≠ c:=fun e=>hne e.symm
   have hn0:0<=y.s.n:=hV.nm.i.n
   have hyn:=HYN.out
   have hsn:=HSN.out
   have w1':IntKind.i64.wrap (3 * y.n)=3 * y.n:=by rw [IntKind.wrap_i64];omega
   have w2':IntKind.i64.wrap (M3.clock+3 * y.n)=M3.clock+3 * y.n:=by rw [IntKind.wrap_i64];omega
   have w3':IntKind.i64.wrap (M3.clock+3 * y.n+y.s.n)=M3.clock+3 * y.n+y.s.n:=by rw [IntKind.wrap_i64];omega
   have hfit:Mach.fit { M3 with mready:=M3.clock+3 * y.n+y.s.n }:={ hB3.fit with main:=hB3.fit.main,mready:=by show 0<=M3.clock+3 * y.n+y.s.n/\M3.clock+3 * y.n+y.s.n<=M3.clock+20000;omega }
   have HV:=hid hV
   have HB3:=hid hB3
   have HFI:=hid hfit
   have HKP:Hid (∀ u,(V.setCell ⟨F.g,73,none⟩ u).drew.cell? ⟨c,5,none⟩=some (pt F.g 0)/\(V.setCell ⟨F.g,73,none⟩ u).drew.cell? ⟨F.g,72,none⟩=some (.int .i64 M3.clock)/\(V.setCell ⟨F.g,73,none⟩ u).drew.cell? ⟨F.g,75,none⟩=some (.int .i64 y.s.n)):=fun u=>⟨(World.cell?_of_block (w:=V) (heap_set_far hne)).trans k5,(World.cell?_setCell_other _ _ _ _ (by simp)).trans m72,(World.cell?_setCell_other _ _ _ _ (by simp)).trans m75⟩
   clear hV hB3 hfit HX HX1 HI2 HM2 HK2 HB2 HD hS hyn hsn hcl hn0
   go_wp2
   go_region_held3 (fun w'=>w'.cell? ⟨c,5,none⟩=some (pt F.g 0)/\w'.cell? ⟨F.g,72,none⟩=some (.int .i64 M3.clock)/\w'.cell? ⟨F.g,75,none⟩=some (.int .i64 y.s.n))
    (first | (go_keep;done) | with_reducible exact HKP.out _)
    (fail)
   go_wp2
   go_end0
   refine ⟨rfl,HV.out.nm.trans (NM.of (s':=⟨{ M3 with mready:=M3.clock+3 * y.n+y.s.n },y.s.n,y.s.l⟩) HF.out HV.out.nm.i HV.out.nm.i.n (v:=v3) ?_ ?_)⟩
   ·exact (HB3.out.drew).put (M':={ M3 with mready:=M3.clock+3 * y.n+y.s.n }) (tk':=⟨y.s.n,y.s.l,v3⟩) 73 _ (by omega) rfl ⟨rfl,rfl,rfl,rfl,rfl⟩ HFI.out
   ·exact Bt.set HB3.out.nd (Bt.kept (Bt.refl F V) HB3.out.big (st0 V).drew) 73 _
  ·refine wp_region_G (S:=fun w'=>w'.cell? ⟨c,5,none⟩=some (pt F.g 0)/\w'.rangeAt F.g 0 (cpuL M.main)/\w'.cell? ⟨F.g,44,none⟩=some (.bool true)/\w'.cell? ⟨F.g,63,none⟩=some (.bool bg)) (st:=22) (by kernel_rfl) ?_
   refine wpAnyG_pure (i:=0) (oi:=⟨some 24,_,_,_,_,none⟩) (v:=?_) rfl (by kernel_rfl) (by kernel_rfl) (by kernel_rfl) (by decide) (fun _ _ _ h=>h) (Or.inl ⟨by rfl,?_⟩) (fun _=>hS) ?_
   rotate_left 1
   focus (intro w hSw;go_simp;try (with_reducible rfl))
   simp only [Act.put,xA,xB,xC]
   refine wpAnyG_pure (i:=1) (oi:=⟨some 25,_,_,_,_,none⟩) (v:=?_) rfl (by kernel_rfl) (by kernel_rfl) (by kernel_rfl) (by decide) (fun _ _ _ h=>h) (Or.inl ⟨by rfl,?_⟩) (fun _=>hS) ?_
   rotate_left 1
   focus (intro w hSw;go_simp;try (with_reducible rfl))
   simp only [Act.put,xA,xB,xC]
   refine wpAnyG_pure (i:=2) (oi:=⟨some 26,_,_,_,_,none⟩) (v:=?_) rfl (by kernel_rfl) (by kernel_rfl) (by kernel_rfl) (by decide) (fun _ _ _ h=>h) (Or.inl ⟨by rfl,?_⟩) (fun _=>hS) ?_
   rotate_left 1
   focus (intro w hSw;go_simp;try (with_reducible rfl))
   simp only [Act.put,xA,xB,xC]
   refine wpAnyG_pure (i:=3) (oi:=⟨some 27,_,_,_,_,none⟩) (v:=?_) rfl (by kernel_rfl) (by kernel_rfl) (by kernel_rfl) (by decide) (fun _ _ _ h=>h) (Or.inl ⟨by rfl,?_⟩) (fun _=>hS) ?_
   rotate_left 1
   focus (intro w hSw;go_simp;try (with_reducible rfl))
   simp only [Act.put,xA,xB,xC]
   refine wpAnyG_pure (i:=5) (oi:=⟨some 29,_,_,_,_,none⟩) (v:=?_) rfl (by kernel_rfl) (by kernel_rfl) (by kernel_rfl) (by decide) (fun _ _ _ h=>h) (Or.inl ⟨by rfl,?_⟩) (fun _=>hS) ?_
   rotate_left 1
   focus (intro w hSw;go_simp;try (with_reducible rfl))
   simp only [Act.put,xA,xB,xC]
   refine wpAnyG_pure (i:=6) (oi:=⟨some 30,_,_,_,_,none⟩) (v:=?_) rfl (by kernel_rfl) (by kernel_rfl) (by kernel_rfl) (by decide) (fun _ _ _ h=>h) (Or.inl ⟨by rfl,?_⟩) (fun _=>hS) ?_
   rotate_left 1
   focus (intro w hSw;go_simp;try (with_reducible rfl))
   simp only [Act.put,xA,xB,xC]
   refine wpAnyG_pure (i:=7) (oi:=⟨some 31,_,_,_,_,none⟩) (v:=?_) rfl (by kernel_rfl) (by kernel_rfl) (by kernel_rfl) (by decide) (fun _ _ _ h=>h) (Or.inl ⟨by rfl,?_⟩) (fun _=>hS) ?_
   rotate_left 1
   focus (intro w hSw;go_simp;try (with_reducible rfl))
   simp only [Act.put,xA,xB,xC]
   refine wpAnyG_pure (i:=10) (oi:=⟨some 34,_,_,_,_,none⟩) (v:=?_) rfl (by kernel_rfl) (by kernel_rfl) (by kernel_rfl) (by decide) (fun _ _ _ h=>h) (Or.inl ⟨by rfl,?_⟩) (fun _=>hS) ?_
   rotate_left 1
   focus (intro w hSw;go_simp;try (with_reducible rfl))
   simp only [Act.put,xA,xB,xC]
   refine wpAnyG_pure (i:=11) (oi:=⟨some 35,_,_,_,_,none⟩) (v:=?_) rfl (by kernel_rfl) (by kernel_rfl) (by kernel_rfl) (by decide) (fun _ _ _ h=>h) (Or.inl ⟨by rfl,?_⟩) (fun _=>hS) ?_
   rotate_left 1
   focus (intro w hSw;go_simp;try (with_reducible rfl))
   simp only [Act.put,xA,xB,xC]
   refine wpAnyG_pure (i:=12) (oi:=⟨some 36,_,_,_,_,none⟩) (v:=?_) rfl (by kernel_rfl) (by kernel_rfl) (by kernel_rfl) (by decide) (fun _ _ _ h=>h) (Or.inl ⟨by rfl,?_⟩) (fun _=>hS) ?_
   rotate_left 1
   focus (intro w hSw;go_simp;try (with_reducible rfl))
   simp only [Act.put,xA,xB,xC]
   refine wpAnyG_pure (i:=13) (oi:=⟨some 37,_,_,_,_,none⟩) (v:=?_) rfl (by kernel_rfl) (by kernel_rfl) (by kernel_rfl) (by decide) (fun _ _ _ h=>h) (Or.inl ⟨by rfl,?_⟩) (fun _=>hS) ?_
   rotate_left 1
   focus (intro w hSw;go_simp;try (with_reducible rfl))
   simp only [Act.put,xA,xB,xC]
   refine wpAnyG_take (i:=4) (oi:=⟨some 28,_,_,_,_,none⟩) (v:=.agg (cpuL M.main).toArray) rfl (by kernel_rfl) (by kernel_rfl) (by kernel_rfl) (by kernel_rfl) (by decide) (by kernel_rfl) (fun _ _ _ h=>h) (Or.inl ⟨by rfl,fun w' hSw=>exec_load_mid 25 _ rfl F.g 0 rfl (cpuL M.main) _ hSw.2.1 Tryz.underlying25 rfl info_cpuC⟩) hS ?_
   simp only [Act.put,xA,xB,xC]
   refine wpAnyG_take2 9 (i:=8) (oi:=⟨some 32,_,_,_,_,none⟩) (v:=pt F.g 0) rfl (by kernel_rfl) (by kernel_rfl) (by kernel_rfl) (by kernel_rfl) (by kernel_rfl) (by decide) (by decide) (by kernel_rfl) (by kernel_rfl) (fun _ _ _ h=>h) (Or.inl ⟨by rfl,?_⟩) hS ?_
   ·intro w' hSw
    have hcc:=hSw.1
    have hcz:=World.block_lt_of_cell? w' _ hcc
    go_simp
    try (with_reducible rfl)
   simp only [Act.put,xA,xB,xC]
   refine wpAnyG_take2 15 (i:=14) (oi:=⟨some 38,_,_,_,_,none⟩) (v:=.bool true) rfl (by kernel_rfl) (by kernel_rfl) (by kernel_rfl) (by kernel_rfl) (by kernel_rfl) (by decide) (by decide) (by kernel_rfl) (by kernel_rfl) (fun _ _ _ h=>h) (Or.inl ⟨by rfl,?_⟩) hS ?_
   ·intro w' hSw
    have hcc:=hSw.2.2.1
    have hcz:=World.block_lt_of_cell? w' _ hcc
    go_simp
    try (with_reducible rfl)
   simp only [Act.put,xA,xB,xC]
   refine wpAnyG_one (i:=9) (o:=⟨some 33,_,_,_,_,none⟩) (by kernel_rfl) rfl (fun K hK=>?_)
   go_simp
   go_at_call 47
   refine (Bu.main_any F.g _).mono ?_
   rintro e w1 ⟨rfl,hb1⟩
   have HX1:=hid (HX.out.kept' HF.out hb1)
   clear hb1
   try go_wp2_with fail
   refine hK.out _ _ (fun _=>HX1.out.ss HTG.out HBG.out) ?_
   clear hK K
   try simp only [Act.put,xA,xB,xC]
   clear hS
   have hS:=HX1.out.ss HTG.out HBG.out
   refine wpAnyG_pure (i:=15) (oi:=⟨some 39,_,_,_,_,none⟩) (v:=?_) rfl (by kernel_rfl) (by kernel_rfl) (by kernel_rfl) (by decide) (fun _ _ _ h=>h) (Or.inl ⟨by rfl,?_⟩) (fun _=>hS) ?_
   rotate_left 1
   focus (intro w hSw;go_simp;try (with_reducible rfl))
   simp only [Act.put,xA,xB,xC]
   refine wpAnyG_pure (i:=16) (oi:={ dst:=some 40,op:=_,type:=_,pos:=_,after:=_,guard:=some (15,false) }) (v:=undef) rfl (by kernel_rfl) (by kernel_rfl) (by kernel_rfl) (by decide) (fun _ _ _ h=>h) (Or.inr ⟨by rfl,rfl⟩) (fun _=>hS) ?_
   simp only [Act.put,xA,xB,xC]
   refine wpAnyG_pure (i:=17) (oi:={ dst:=some 41,op:=_,type:=_,pos:=_,after:=_,guard:=some (15,false) }) (v:=undef) rfl (by kernel_rfl) (by kernel_rfl) (by kernel_rfl) (by decide) (fun _ _ _ h=>h) (Or.inr ⟨by rfl,rfl⟩) (fun _=>hS) ?_
   simp only [Act.put,xA,xB,xC]
   refine wpAnyG_pure (i:=18) (oi:={ dst:=some 42,op:=_,type:=_,pos:=_,after:=_,guard:=some (15,false) }) (v:=undef) rfl (by kernel_rfl) (by kernel_rfl) (by kernel_rfl) (by decide) (fun _ _ _ h=>h) (Or.inr ⟨by rfl,rfl⟩) (fun _=>hS) ?_
   simp only [Act.put,xA,xB,xC]
   refine wpAnyG_pure (i:=19) (oi:={ dst:=some 43,op:=_,type:=_,pos:=_,after:=_,guard:=some (15,false) }) (v:=undef) rfl (by kernel_rfl) (by kernel_rfl) (by kernel_rfl) (by decide) (fun _ _ _ h=>h) (Or.inr ⟨by rfl,rfl⟩) (fun _=>hS) ?_
   simp only [Act.put,xA,xB,xC]
   refine wpAnyG_pure (i:=20) (oi:={ dst:=some 44,op:=_,type:=_,pos:=_,after:=_,guard:=some (15,false) }) (v:=undef) rfl (by kernel_rfl) (by kernel_rfl) (by kernel_rfl) (by decide) (fun _ _ _ h=>h) (Or.inr ⟨by rfl,rfl⟩) (fun _=>hS) ?_
   simp only [Act.put,xA,xB,xC]
   refine wpAnyG_pure (i:=21) (oi:=⟨some 45,_,_,_,_,none⟩) (v:=?_) rfl (by kernel_rfl) (by kernel_rfl) (by kernel_rfl) (by decide) (fun _ _ _ h=>h) (Or.inl ⟨by rfl,?_⟩) (fun _=>hS) ?_
   rotate_left 1
   focus (intro w hSw;go_simp;try (with_reducible rfl))
   simp only [Act.put,xA,xB,xC]
   refine wpAnyG_one (i:=22) (o:=⟨some 46,_,_,_,_,none⟩) (by kernel_rfl) rfl (fun K hK=>?_)
   go_simp
   go_at_call 86
   refine (HD.out _ HX1.out.i).mono ?_
   rintro e w2 ⟨rfl,hI2,hm2,hk2⟩
   have HI2:=hid hI2
   have HM2:=hid hm2
   have HK2:=hid hk2
   clear hI2 hm2 hk2
   try go_wp2_with fail
   refine hK.out _ _ (fun h=>by simp at h) ?_
   clear hK K
   try simp only [Act.put,xA,xB,xC]
   refine wpAnyG_pure (i:=23) (oi:=⟨some 23,_,_,_,_,none⟩) (v:=?_) rfl (by kernel_rfl) (by kernel_rfl) (by kernel_rfl) (by decide) (fun _ _ _ h=>h) (Or.inl ⟨by rfl,?_⟩) (fun h=>by simp at h) ?_
   rotate_left 1
   focus (intro w hSw;go_simp;try (with_reducible rfl))
   simp only [Act.put,xA,xB,xC]
   refine wpAnyG_pure (i:=24) (oi:=⟨some 47,_,_,_,_,none⟩) (v:=?_) rfl (by kernel_rfl) (by kernel_rfl) (by kernel_rfl) (by decide) (fun _ _ _ h=>h) (Or.inl ⟨by rfl,?_⟩) (fun h=>by simp at h) ?_
   rotate_left 1
   focus (intro w hSw;go_simp;try (with_reducible rfl))
   simp only [Act.put,xA,xB,xC]
   refine wpAnyG_pure (i:=25) (oi:=⟨some 48,_,_,_,_,none⟩) (v:=?_) rfl (by kernel_rfl) (by kernel_rfl) (by kernel_rfl) (by decide) (fun _ _ _ h=>h) (Or.inl ⟨by rfl,?_⟩) (fun h=>by simp at h) ?_
   rotate_left 1
   focus (intro w hSw;go_simp;try (with_reducible rfl))
   simp only [Act.put,xA,xB,xC]
   refine wpAnyG_pure (i:=26) (oi:=⟨some 49,_,_,_,_,none⟩) (v:=?_) rfl (by kernel_rfl) (by kernel_rfl) (by kernel_rfl) (by decide) (fun _ _ _ h=>h) (Or.inl ⟨by rfl,?_⟩) (fun h=>by simp at h) ?_
   rotate_left 1
   focus (intro w hSw;go_simp;try (with_reducible rfl))
   simp only [Act.put,xA,xB,xC]
   refine wpAnyG_pure (i:=27) (oi:=⟨some 50,_,_,_,_,none⟩) (v:=?_) rfl (by kernel_rfl) (by kernel_rfl) (by kernel_rfl) (by decide) (fun _ _ _ h=>h) (Or.inl ⟨by rfl,?_⟩) (fun h=>by simp at h) ?_
   rotate_left 1
   focus (intro w hSw;go_simp;try (with_reducible rfl))
   simp only [Act.put,xA,xB,xC]
   obtain ⟨v2,hB2⟩:=HI2.out.bd
   have HB2:=hid hB2
   clear hB2
   refine wpAnyG_one (i:=28) (o:=⟨none,_,_,_,_,none⟩) (by kernel_rfl) rfl (fun K hK=>?_)
   refine step_store_mid rfl 25 _ _ rfl F.g 0 (cpuL y.c).toArray rfl rfl (Bx.there HB2.out.bx 0 15 (by rw [Fx.len];omega)) info_cpuC (cpu_one y.c) ?_
   refine hK.out _ _ (fun h=>by simp at h) ?_
   clear hK K
   refine wpAnyG_pure (i:=29) (oi:=⟨some 3,_,_,_,_,none⟩) (v:=?_) rfl (by kernel_rfl) (by kernel_rfl) (by kernel_rfl) (by decide) (fun _ _ _ h=>h) (Or.inl ⟨by rfl,?_⟩) (fun h=>by simp at h) ?_
   rotate_left 1
   focus (intro w hSw;go_simp;try (with_reducible rfl))
   simp only [Act.put,xA,xB,xC]
   refine wpAnyG_done (by kernel_rfl) ?_ _
   refine Pl.cutE (XN F N c vco vln vsm w ⟨M,n,l⟩ ⟨M3,y.s.n,y.s.l⟩) ?_ ?_
   ·have hx:NM F N w1 ⟨M,0,l⟩ ⟨M3,y.s.n,y.s.l⟩ (w2.setCells F.g 0 (cpuL y.c)):=(⟨HI2.out,HM2.out⟩:NM F N w1 ⟨M,0,l⟩ y.s w2).trans (NM.of (s':=⟨M3,y.s.n,y.s.l⟩) HF.out HI2.out HI2.out.n (by rw [HM3.out];exact HB2.out.puts (M':={ y.s.M with main:=y.c }) (tk':=⟨y.s.n,y.s.l,v2⟩) 0 (cpuL y.c) (by simp [cpuL]) (F.putMain y.s.M _ y.c) ⟨rfl,rfl,rfl,rfl,rfl⟩ { HB2.out.fit with main:=HK2.out,aux:=HB2.out.fit.aux }) (Bt.sets HB2.out.nd (cpuL y.c) 0 _ (Bt.refl F w2)))
    exact ⟨HX1.out.nm.trans hx,hx.cb HX1.out.cb⟩
   intro V hV
   obtain ⟨v3,hB3⟩:=hV.nm.i.bd
   have k5:=hV.cb.bx.at 5 _ rfl
   have kz:=hV.cb.z
   have m72:=hB3.at 72 (.int .i64 M3.clock) rfl
   have m75:=hB3.at 75 (.int .i64 y.s.n) rfl
   have m73:=hB3.at 73 (.int .i64 M3.mready) rfl
   have mz:=hB3.bx.z
   have mf:=hB3.bx.f 73
   have hcl:0<=M3.clock/\M3.clock<=200000:=hB3.fit.clock
   have hne:c ≠ F.g:=fun e=>by have:=hV.cb.n;have:=HF.out.into.g;omega
   have hne':F.g ≠ c:=fun e=>hne e.symm
   have hn0:0<=y.s.n:=hV.nm.i.n
   have hyn:=HYN.out
   have hsn:=HSN.out
   have w1':IntKind.i64.wrap (3 * y.n)=3 * y.n:=by rw [IntKind.wrap_i64];omega
   have w2':IntKind.i64.wrap (M3.clock+3 * y.n)=M3.clock+3 * y.n:=by rw [IntKind.wrap_i64];omega
   have w3':IntKind.i64.wrap (M3.clock+3 * y.n+y.s.n)=M3.clock+3 * y.n+y.s.n:=by rw [IntKind.wrap_i64];omega
   have hfit:Mach.fit { M3 with mready:=M3.clock+3 * y.n+y.s.n }:={ hB3.fit with main:=hB3.fit.main,mready:=by show 0<=M3.clock+3 * y.n+y.s.n/\M3.clock+3 * y.n+y.s.n<=M3.clock+20000;omega }
   have HV:=hid hV
   have HB3:=hid hB3
   have HFI:=hid hfit
   have HKP:Hid (∀ u,(V.setCell ⟨F.g,73,none⟩ u).drew.cell? ⟨c,5,none⟩=some (pt F.g 0)/\(V.setCell ⟨F.g,73,none⟩ u).drew.cell? ⟨F.g,72,none⟩=some (.int .i64 M3.clock)/\(V.setCell ⟨F.g,73,none⟩ u).drew.cell? ⟨F.g,75,none⟩=some (.int .i64 y.s.n)):=fun u=>⟨(World.cell?_of_block (w:=V) (heap_set_far hne)).trans k5,(World.cell?_setCell_other _ _ _ _ (by simp)).trans m72,(World.cell?_setCell_other _ _ _ _ (by simp)).trans m75⟩
   clear hV hB3 hfit HX HX1 HI2 HM2 HK2 HB2 HD hS hyn hsn hcl hn0
   go_wp2
   go_region_held3 (fun w'=>w'.cell? ⟨c,5,none⟩=some (pt F.g 0)/\w'.cell? ⟨F.g,72,none⟩=some (.int .i64 M3.clock)/\w'.cell? ⟨F.g,75,none⟩=some (.int .i64 y.s.n))
    (first | (go_keep;done) | with_reducible exact HKP.out _)
    (fail)
   go_wp2
   go_end0
   refine ⟨rfl,HV.out.nm.trans (NM.of (s':=⟨{ M3 with mready:=M3.clock+3 * y.n+y.s.n },y.s.n,y.s.l⟩) HF.out HV.out.nm.i HV.out.nm.i.n (v:=v3) ?_ ?_)⟩
   ·exact (HB3.out.drew).put (M':={ M3 with mready:=M3.clock+3 * y.n+y.s.n }) (tk':=⟨y.s.n,y.s.l,v3⟩) 73 _ (by omega) rfl ⟨rfl,rfl,rfl,rfl,rfl⟩ HFI.out
   ·exact Bt.set HB3.out.nd (Bt.kept (Bt.refl F V) HB3.out.big (st0 V).drew) 73 _
end
end Go.Proofs.YtbhpfkjfijdmaaaGreatDoor
