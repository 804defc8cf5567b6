/-
  Parts of a proof, joined.
-/
import Derived.Test.YtbennamieealbaaGreatDoorZg01
import Derived.Test.YtbennamieealbaaGreatDoorZg31
set_option linter.unusedVariables false
set_option maxRecDepth 100000
set_option maxHeartbeats 6400000
namespace Go.Proofs.YtbennamieealbaaGreatDoor
open Go.ChangeShapes Go.WideShapes Go.ChangeAt Go.RowKit
section
variable {F : Fx} {N c : Nat} {vco vln vsm : Value} {w w1 : World} {s s' : Bst}
theorem XN.kept' {Y Y':World} (hF:Fb F N) (h:XN F N c vco vln vsm w s s' Y) (hb:Below Y.heap.size Y Y'):XN F N c vco vln vsm w s s' Y':=⟨h.nm.trans (NM.refl hF h.nm.i hb),h.cb.kept hb⟩
theorem XN.sa {M:Mach} {n:Int} {l:List Wt} {Y:World} (h:XN F N c vco vln vsm w s ⟨M,n,l⟩ Y):Y.cell? ⟨c,5,none⟩=some (pt F.g 0)/\Y.rangeAt F.g 15 (cpuL M.aux)/\Y.cell? ⟨F.g,71,none⟩=some (.bool M.rung):=by
 obtain ⟨v,hB⟩:=h.nm.i.bd
 exact ⟨h.cb.bx.at 5 _ rfl,hB.auxR,hB.at 71 _ rfl⟩
theorem Lk.stepAux (hF:Fb F N) (hI:BI F N w s) (hc:CB F N c vco vln vsm w) (hl:s.l.length<=1000000):Calls Tryz.prog 63 #[pt c 0] w λe w'=>e = .returned (.tuple #[])/\NM F N w s s.stepAux w':=by
 have k0:=hc.bx.at 0 _ rfl
 have kz:=hc.z
 obtain ⟨v,hB⟩:=hI.bd
 obtain ⟨M,n,l⟩:=s
 have m72:=hB.at 72 (.int .i64 M.clock) rfl
 have m74:=hB.at 74 (.int .i64 M.aready) rfl
 have mz:=hB.bx.z
 have HF:=hid hF
 have HI:=hid hI
 have HC:=hid hc
 have HB:=hid hB
 clear hF hI hc
 by_cases hh:M.held=true
 ·have m68:w.cell? ⟨F.g,68,none⟩=some (.bool true):=by rw [<- hh];exact hB.at 68 (.bool M.held) rfl
  have e0:Bst.stepAux ⟨M,n,l⟩=⟨M,n,l⟩:=by unfold Bst.stepAux;exact if_pos (Or.inl hh)
  rw [e0]
  clear hB hh hl
  go_enter Tryz.func63,Tryz.ntmps63
  go_wp2
  go_quiet (fail)
  go_wp2
  exact bodyPost_ret (v:=.tuple #[]) (by simp [results,Tryz.results63,go_sem]) rfl ⟨rfl,NM.refl HF.out HI.out (Bl.drewN (st0 w) nq)⟩
 ·have hh':M.held=false:=by simpa using hh
  have m68:w.cell? ⟨F.g,68,none⟩=some (.bool false):=by rw [<- hh'];exact hB.at 68 (.bool M.held) rfl
  by_cases hr:M.clock<M.aready
  ·have e0:Bst.stepAux ⟨M,n,l⟩=⟨M,n,l⟩:=by unfold Bst.stepAux;exact if_pos (Or.inr hr)
   rw [e0]
   clear hB hh hh' hl
   go_enter Tryz.func63,Tryz.ntmps63
   go_wp2
   go_quiet (fail)
   go_wp2
   exact bodyPost_ret (v:=.tuple #[]) (by simp [results,Tryz.results63,go_sem]) rfl ⟨rfl,NM.refl HF.out HI.out (Bl.drewN (st0 w) nq)⟩
  ·obtain ⟨y,hy⟩:∃ y,y=C.step auxMem M.aux ⟨M,n,l⟩ M.rung:=⟨_,rfl⟩
   obtain ⟨M3,hM3⟩:∃ M3:Mach,M3={ y.s.M with aux:=y.c }:=⟨_,rfl⟩
   have e0:Bst.stepAux ⟨M,n,l⟩=⟨{ M3 with aready:=M3.clock+5*y.n },y.s.n,y.s.l⟩:=by
    rw [hM3,hy];unfold Bst.stepAux
    exact if_neg (λe=>e.elim hh hr)
   rw [e0]
   have HM3:=hid hM3
   have hr':M.aready<=M.clock:=by omega
   have hfu:4<=auxMem.fuel ⟨M,n,l⟩:=by
    show 4<=1000000001-l.length
    have:l.length<=1000000:=hl
    omega
   have hdo:∀ W,BI F N W ⟨M,n,l⟩->Calls Tryz.prog 112 #[.agg (cpuL M.aux).toArray,reachV F.g 143,.bool M.rung] W λe w'=>e = .returned (.tuple #[.agg (cpuL y.c).toArray,.int .i64 y.n])/\BI F N w' y.s/\Mv F.B (Tw (BT N) W ⟨M,n,l⟩) (Tw (BT N) w' y.s) W w'/\y.c.ok:=λW h=>by
    rw [hy]
    exact zmE (zg5 HF.out) M.rung W M.aux ⟨M,n,l⟩ HB.out.fit.aux hfu h
   have hyn:0<=y.n/\y.n<=21:=by rw [hy];exact C.step_n _ _ _ (rk_bd _ (zfl (zg5 HF.out) _ _)).1
   have HD:=hid hdo
   have HYN:=hid hyn
   clear hM3 hy e0 hfu hdo hr hyn hh hh' hB hl
   go_enter Tryz.func63,Tryz.ntmps63
   go_wp2
   go_quiet (fail)
   go_upto_region 3 with fail
   refine Pl.cutW (XN F N c vco vln vsm w ⟨M,n,l⟩ ⟨M,n,l⟩) ⟨NM.refl HF.out HI.out (Bl.drewN (st0 w) nq),HC.out.kept (Bl.drewN (st0 w) nq)⟩ ?_
   intro Y hY
   have HX:=hid (hY.kept' HF.out (st0 Y).drew)
   have hS:=(hY.kept' HF.out (st0 Y).drew).sa
   clear hY HB HI HC k0 kz m72 m74 m68 mz hr'
   refine zac (S:=λw'=>w'.cell? ⟨c,5,none⟩=some (pt F.g 0)/\w'.rangeAt F.g 15 (cpuL M.aux)/\w'.cell? ⟨F.g,71,none⟩=some (.bool M.rung)) (st:=14) (by kernel_rfl) ?_
   refine tqG 0 ⟨some 24,_,_,_,_,none⟩ (λ_=>hS) ?_
   simp only [Act.put,xA,xB,xC]
   refine tqG 1 ⟨some 25,_,_,_,_,none⟩ (λ_=>hS) ?_
   simp only [Act.put,xA,xB,xC]
   refine tqG 2 ⟨some 26,_,_,_,_,none⟩ (λ_=>hS) ?_
   simp only [Act.put,xA,xB,xC]
   refine tqG 3 ⟨some 27,_,_,_,_,none⟩ (λ_=>hS) ?_
   simp only [Act.put,xA,xB,xC]
   refine tqG 5 ⟨some 29,_,_,_,_,none⟩ (λ_=>hS) ?_
   simp only [Act.put,xA,xB,xC]
   refine tqG 6 ⟨some 30,_,_,_,_,none⟩ (λ_=>hS) ?_
   simp only [Act.put,xA,xB,xC]
   refine tqG 7 ⟨some 31,_,_,_,_,none⟩ (λ_=>hS) ?_
   simp only [Act.put,xA,xB,xC]
   refine tqG 10 ⟨some 34,_,_,_,_,none⟩ (λ_=>hS) ?_
   simp only [Act.put,xA,xB,xC]
   refine tqG 11 ⟨some 35,_,_,_,_,none⟩ (λ_=>hS) ?_
   simp only [Act.put,xA,xB,xC]
   refine tqG 12 ⟨some 36,_,_,_,_,none⟩ (λ_=>hS) ?_
   simp only [Act.put,xA,xB,xC]
   refine zaf (i:=4) (oi:=⟨some 28,_,_,_,_,none⟩) (v:=.agg (cpuL M.aux).toArray) rfl (by kernel_rfl) (by kernel_rfl) (by kernel_rfl) (by kernel_rfl) (by decide) (by kernel_rfl) (λ_ _ _ h=>h) (Or.inl ⟨by rfl,λw' hSw=>zai 25 _ rfl F.g 15 rfl (cpuL M.aux) _ hSw.2.1 Tryz.underlying25 rfl zbb⟩) hS ?_
   simp only [Act.put,xA,xB,xC]
   refine zbq 9 (i:=8) (oi:=⟨some 32,_,_,_,_,none⟩) (v:=pt F.g 0) rfl (by kernel_rfl) (by kernel_rfl) (by kernel_rfl) (by kernel_rfl) (by kernel_rfl) (by decide) (by decide) (by kernel_rfl) (by kernel_rfl) (λ_ _ _ h=>h) (Or.inl ⟨by rfl,?_⟩) hS ?_
   ·intro w' hSw
    have hcc:=hSw.1
    have hcz:=World.block_lt_of_cell? w' _ hcc
    go_simp
    try (with_reducible rfl)
   simp only [Act.put,xA,xB,xC]
   refine zaf (i:=13) (oi:=⟨some 37,_,_,_,_,none⟩) (v:=.bool M.rung) rfl (by kernel_rfl) (by kernel_rfl) (by kernel_rfl) (by kernel_rfl) (by decide) (by kernel_rfl) (λ_ _ _ h=>h) (Or.inl ⟨by rfl,?_⟩) hS ?_
   ·intro w' hSw
    have hcc:=hSw.2.2
    have hcz:=World.block_lt_of_cell? w' _ hcc
    go_simp
    try (with_reducible rfl)
   simp only [Act.put,xA,xB,xC]
   refine zaa (i:=9) (o:=⟨some 33,_,_,_,_,none⟩) (by kernel_rfl) rfl (λK hK=>?_)
   go_simp
   go_at_call 113
   refine (zek F.g _).mono ?_
   rintro e w1 ⟨rfl,hb1⟩
   have HX1:=hid (HX.out.kept' HF.out hb1)
   clear hb1
   try go_wp2_with fail
   refine hK.out _ _ (λ_=>HX1.out.sa) ?_
   clear hK K
   try simp only [Act.put,xA,xB,xC]
   clear hS
   have hS:=HX1.out.sa
   refine zaa (i:=14) (o:=⟨some 38,_,_,_,_,none⟩) (by kernel_rfl) rfl (λK hK=>?_)
   go_simp
   go_at_call 112
   refine (HD.out _ HX1.out.nm.i).mono ?_
   rintro e w2 ⟨rfl,hI2,hm2,hk2⟩
   have HI2:=hid hI2
   have HM2:=hid hm2
   have HK2:=hid hk2
   clear hI2 hm2 hk2
   try go_wp2_with fail
   refine hK.out _ _ (λh=>by simp at h) ?_
   clear hK K
   try simp only [Act.put,xA,xB,xC]
   refine tqG 15 ⟨some 23,_,_,_,_,none⟩ (λh=>by simp at h) ?_
   simp only [Act.put,xA,xB,xC]
   refine tqG 16 ⟨some 39,_,_,_,_,none⟩ (λh=>by simp at h) ?_
   simp only [Act.put,xA,xB,xC]
   refine tqG 17 ⟨some 40,_,_,_,_,none⟩ (λh=>by simp at h) ?_
   simp only [Act.put,xA,xB,xC]
   refine tqG 18 ⟨some 41,_,_,_,_,none⟩ (λh=>by simp at h) ?_
   simp only [Act.put,xA,xB,xC]
   refine tqG 19 ⟨some 42,_,_,_,_,none⟩ (λh=>by simp at h) ?_
   simp only [Act.put,xA,xB,xC]
   obtain ⟨v2,hB2⟩:=HI2.out.bd
   have HB2:=hid hB2
   clear hB2
   refine zaa (i:=20) (o:=⟨none,_,_,_,_,none⟩) (by kernel_rfl) rfl (λK hK=>?_)
   refine zam rfl 25 _ _ rfl F.g 15 (cpuL y.c).toArray rfl rfl (Bx.there HB2.out.bx 15 15 (by rw [Fx.len];omega)) zbb (zj6 y.c) ?_
   refine hK.out _ _ (λh=>by simp at h) ?_
   clear hK K
   refine tqG 21 ⟨some 3,_,_,_,_,none⟩ (λh=>by simp at h) ?_
   simp only [Act.put,xA,xB,xC]
   refine zab (by kernel_rfl) ?_ _
   refine Pl.cutE (XN F N c vco vln vsm w ⟨M,n,l⟩ ⟨M3,y.s.n,y.s.l⟩) ?_ ?_
   ·have hx:NM F N w1 ⟨M,n,l⟩ ⟨M3,y.s.n,y.s.l⟩ (w2.setCells F.g 15 (cpuL y.c)):=(⟨HI2.out,HM2.out⟩:NM F N w1 ⟨M,n,l⟩ y.s w2).trans (NM.of (s':=⟨M3,y.s.n,y.s.l⟩) HF.out HI2.out HI2.out.n (by rw [HM3.out];exact HB2.out.puts (M':={ y.s.M with aux:=y.c }) (tk':=⟨y.s.n,y.s.l,v2⟩) 15 (cpuL y.c) (by simp [cpuL]) (F.putAux y.s.M _ y.c) ⟨rfl,rfl,rfl,rfl,rfl⟩ { HB2.out.fit with main:=HB2.out.fit.main,aux:=HK2.out }) (Bt.sets HB2.out.nd (cpuL y.c) 15 _ (Bt.refl F w2)))
    exact ⟨HX1.out.nm.trans hx,hx.cb HX1.out.cb⟩
   intro V hV
   obtain ⟨v3,hB3⟩:=hV.nm.i.bd
   have m72:=hB3.at 72 (.int .i64 M3.clock) rfl
   have m74:=hB3.at 74 (.int .i64 M3.aready) rfl
   have mz:=hB3.bx.z
   have mf:=hB3.bx.f 74
   have hcl:0<=M3.clock/\M3.clock<=200000:=hB3.fit.clock
   have hyn:=HYN.out
   have w1':IntKind.i64.wrap (5*y.n)=5*y.n:=by rw [IntKind.wrap_i64];omega
   have w2':IntKind.i64.wrap (M3.clock+5*y.n)=M3.clock+5*y.n:=by rw [IntKind.wrap_i64];omega
   have hfit:Mach.fit { M3 with aready:=M3.clock+5*y.n }:={ hB3.fit with main:=hB3.fit.main,aready:=by show 0<=M3.clock+5*y.n/\M3.clock+5*y.n<=M3.clock+20000;omega }
   have HV:=hid hV
   have HB3:=hid hB3
   have HFI:=hid hfit
   clear hV hB3 hfit HX HX1 HI2 HM2 HK2 HB2 HD hS hyn hcl
   go_wp2
   go_end0
   refine ⟨rfl,HV.out.nm.trans (NM.of (s':=⟨{ M3 with aready:=M3.clock+5*y.n },y.s.n,y.s.l⟩) HF.out HV.out.nm.i HV.out.nm.i.n (v:=v3) ?_ ?_)⟩
   ·exact HB3.out.put (M':={ M3 with aready:=M3.clock+5*y.n }) (tk':=⟨y.s.n,y.s.l,v3⟩) 74 _ (by omega) rfl ⟨rfl,rfl,rfl,rfl,rfl⟩ HFI.out
   ·exact Bt.set HB3.out.nd (Bt.refl F V) 74 _
end
def InpAt (B:Nat) (w:World) (v:Value) (l:List Inp):Prop :=
 (l=[] /\ ∃ a c,v = .slice a 0 c) \/ ∃ g o cap,v = .slice (some ⟨g,o,none⟩) l.length cap/\l.length<=cap/\g<B/\g<w.heap.size /\
  ∀ j x,l[j]? = some x->w.cell? ⟨g,o+3*j,none⟩=some (.int .i64 x.c)/\w.cell? ⟨g,o+3*j+1,none⟩=some (.int .i64 x.p)/\w.cell? ⟨g,o+3*j+2,none⟩=some (.int .u8 x.d)
structure Inp.ok (x : Inp) : Prop where
 p:x.p=0 \/ x.p=1
 d:0<=x.d/\x.d<=255
theorem InpAt.kept {B:Nat} {w w1:World} {v:Value} {l:List Inp} (h:InpAt B w v l) (hb:Below B w w1):InpAt B w1 v l:=by
 rcases h with h|⟨g,o,cap,h1,h2,h3,h4,h5⟩
 ·exact Or.inl h
 ·refine Or.inr ⟨g,o,cap,h1,h2,h3,Nat.lt_of_lt_of_le h4 hb.size,λj x hj=>?_⟩
  obtain ⟨e1,e2,e3⟩:=h5 j x hj
  exact ⟨(World.cell?_of_block (w:=w) (hb.block g h3)).trans e1,(World.cell?_of_block (w:=w) (hb.block g h3)).trans e2,(World.cell?_of_block (w:=w) (hb.block g h3)).trans e3⟩
theorem zdw (M:Mach) (x:Inp):(M.press x).clock=M.clock:=by unfold Mach.press;split <;> rfl
theorem zcX {M:Mach} {x:Inp} {l:List Inp} (h:x.c<=M.clock):M.pressed (x::l)=(M.press x).pressed l:=if_pos h
theorem zcY (M:Mach) (x:Inp):∀ l:List Inp,(M.press x).coming l=M.coming l
 | []=>rfl
 | y::l=>by
  show (if y.c<=(M.press x).clock then (M.press x).coming l else y::l)=if y.c<=M.clock then M.coming l else y::l
  rw [zdw,zcY M x l]
theorem zdx {M:Mach} {x:Inp} {l:List Inp} (h:x.c<=M.clock):M.coming (x::l)=(M.press x).coming l:=by
 rw [zcY];exact if_pos h
theorem zfZ {M:Mach} {x:Inp} {l:List Inp} (h:¬ x.c<=M.clock):M.pressed (x::l)=M:=if_neg h
theorem zgw {M:Mach} {x:Inp} {l:List Inp} (h:¬ x.c<=M.clock):M.coming (x::l)=x::l:=if_neg h
theorem zf0 {M:Mach} (h:M.fit) {x:Inp} (hx:x.ok):(M.press x).fit:=by
 unfold Mach.press
 split
 ·exact { h with main:=h.main,p0:=Pd.press_ok h.p0 hx.d }
 ·exact { h with main:=h.main,p1:=Pd.press_ok h.p1 hx.d }
section
variable {F : Fx} {N c : Nat} {vco vln vsm : Value} {w w1 w2 : World} {s s' s2 : Bst}
structure KM (F : Fx) (N c : Nat) (w : World) (s s' : Bst) (w1 : World) : Prop where
 i:BI F N w1 s'
 m:Mv F.B (λk=>k=c \/ Tw (BT N) w s k) (λk=>k=c \/ Tw (BT N) w1 s' k) w w1
theorem NM.km (h:NM F N w s s' w1):KM F N c w s s' w1:=⟨h.i,h.m.also c⟩
theorem KM.trans (h:KM F N c w s s' w1) (k:KM F N c w1 s' s2 w2):KM F N c w s s2 w2:=⟨k.i,h.m.trans k.m⟩
theorem KM.set (hF:Fb F N) (h:KM F N c w s s' w1) (hB:F.B<=c) (hc:CB F N c vco vln vsm w1) (i:Nat) (v:Value):KM F N c w s s' (w1.setCell ⟨c,i,none⟩ v) :=
 ⟨h.i.keep hF (by rw [zao];exact Nat.le_refl _) (λk hk=>zae (λe=>hc.out (by rw [<- e];exact hk))),(Mv.setCell h.m hB (Or.inl (Or.inl rfl)) v).weak (λk hk=>Or.inl (hk.imp id Tw.set))⟩
theorem CB.put1 (h:CB F N c vco vln vsm w) (v:Value):CB F N c v vln vsm (w.setCell ⟨c,1,none⟩ v):=⟨h.n,by rw [zbD h.blk];rfl⟩
theorem CB.put2 (h:CB F N c vco vln vsm w) (v:Value):CB F N c vco v vsm (w.setCell ⟨c,2,none⟩ v):=⟨h.n,by rw [zbD h.blk];rfl⟩
theorem CB.put3 (h:CB F N c vco vln vsm w) (v:Value):CB F N c vco vln v (w.setCell ⟨c,3,none⟩ v):=⟨h.n,by rw [zbD h.blk];rfl⟩
theorem CB.big (h:CB F N c vco vln vsm w) (hI:BI F N w s) (hF:Fb F N):F.B<=c:=by
 obtain ⟨v,hB⟩:=hI.bd
 have:=hB.nd.lo.1
 have:=hF.into.g
 have:=h.n
 omega
theorem zj7 (p:Pd):(#[.int .u8 p.d,.bool p.l,.int .u8 p.s]:Array Value).all (·.oneCell')=true:=by simp [Value.oneCell']
theorem Bd.pad0 {W:World} {M:Mach} {tk:Tk} (h:Bd F W M tk):W.rangeAt F.g 35 [.int .u8 M.p0.d,.bool M.p0.l,.int .u8 M.p0.s]:=λi v hi=>by
 refine h.at (35+i) v ?_
 have hl:=(List.getElem?_eq_some_iff.1 hi).1
 have hc:i=0 \/ i=1 \/ i=2:=by simp at hl;omega
 rcases hc with rfl|rfl|rfl <;> exact hi
theorem Bd.pad1 {W:World} {M:Mach} {tk:Tk} (h:Bd F W M tk):W.rangeAt F.g 38 [.int .u8 M.p1.d,.bool M.p1.l,.int .u8 M.p1.s]:=λi v hi=>by
 refine h.at (38+i) v ?_
 have hl:=(List.getElem?_eq_some_iff.1 hi).1
 have hc:i=0 \/ i=1 \/ i=2:=by simp at hl;omega
 rcases hc with rfl|rfl|rfl <;> exact hi
end
section
variable {F : Fx} {N c : Nat} {vco vln vsm : Value} {w w1 : World} {s0 s s' : Bst} {l0 : List Inp}
structure XP (F : Fx) (N c : Nat) (vln vsm : Value) (w : World) (s0 s : Bst) (vco : Value) (l : List Inp) (Y : World) : Prop where
 km:KM F N c w s0 s Y
 cb:CB F N c vco vln vsm Y
 co:InpAt F.B Y vco l
theorem XP.kept {Y Y':World} (hF:Fb F N) (h:XP F N c vln vsm w s0 s vco l0 Y) (hb:Below Y.heap.size Y Y'):XP F N c vln vsm w s0 s vco l0 Y' :=
 ⟨h.km.trans (NM.refl hF h.km.i hb).km,h.cb.kept hb,h.co.kept (hb.mono h.km.i.big)⟩
structure XQ (F : Fx) (N c : Nat) (vln vsm : Value) (w : World) (s0 s : Bst) (vco : Value) (l : List Inp) (b : Nat) (x : Inp) (Y : World) : Prop extends XP F N c vln vsm w s0 s vco l Y where
 bx:Bx Y b [.int .i64 x.c,.int .i64 x.p,.int .u8 x.d]
theorem XQ.kept' {Y Y':World} {b:Nat} {x:Inp} (hF:Fb F N) (h:XQ F N c vln vsm w s0 s vco l0 b x Y) (hb:Below Y.heap.size Y Y'):XQ F N c vln vsm w s0 s vco l0 b x Y':=⟨h.toXP.kept hF hb,h.bx.kept hb⟩
theorem XQ.q0 {M:Mach} {n:Int} {l:List Wt} {Y:World} {b:Nat} {x:Inp} (h:XQ F N c vln vsm w s0 ⟨M,n,l⟩ vco l0 b x Y) (hp:x.p=0):Y.cell? ⟨c,0,none⟩=some (pt F.g 0)/\Y.cell? ⟨b,1,none⟩=some (.int .i64 0)/\Y.cell? ⟨b,2,none⟩=some (.int .u8 x.d)/\Y.rangeAt F.g 35 [.int .u8 M.p0.d,.bool M.p0.l,.int .u8 M.p0.s]:=by
 obtain ⟨v,hB⟩:=h.km.i.bd
 exact ⟨h.cb.bx.at 0 _ rfl,by rw [<- hp];exact h.bx.at 1 _ rfl,h.bx.at 2 _ rfl,hB.pad0⟩
theorem XQ.q1 {M:Mach} {n:Int} {l:List Wt} {Y:World} {b:Nat} {x:Inp} (h:XQ F N c vln vsm w s0 ⟨M,n,l⟩ vco l0 b x Y) (hp:x.p=1):Y.cell? ⟨c,0,none⟩=some (pt F.g 0)/\Y.cell? ⟨b,1,none⟩=some (.int .i64 1)/\Y.cell? ⟨b,2,none⟩=some (.int .u8 x.d)/\Y.rangeAt F.g 38 [.int .u8 M.p1.d,.bool M.p1.l,.int .u8 M.p1.s]:=by
 obtain ⟨v,hB⟩:=h.km.i.bd
 exact ⟨h.cb.bx.at 0 _ rfl,by rw [<- hp];exact h.bx.at 1 _ rfl,h.bx.at 2 _ rfl,hB.pad1⟩
def left (c:Nat) (W:World):Nat:=match W.cell? ⟨c,1,none⟩ with|some (.slice _ n _)=>n|_=>0
theorem zgx {W:World} {a:Option Addr} {n k:Nat} (h:W.cell? ⟨c,1,none⟩=some (.slice a n k)):left c W=n:=by unfold left;rw [h]
theorem InpAt.len {B:Nat} {v:Value} {l:List Inp} (h:InpAt B w v l):∃ a k,v = .slice a l.length k:=by
 rcases h with ⟨rfl,a,k,e⟩|⟨g,o,k,e,_⟩
 ·exact ⟨a,k,e⟩
 ·exact ⟨_,k,e⟩
theorem InpAt.tail {B g o cap:Nat} {x:Inp} {tl:List Inp} (h:InpAt B w (.slice (some ⟨g,o,none⟩) (x::tl).length cap) (x::tl)):InpAt B w (.slice (if cap=1 then some ⟨g,o,none⟩ else some ⟨g,o+3,none⟩) tl.length (cap-1)) tl:=by
 rcases h with ⟨e,_⟩|⟨g',o',cap',e,h2,h3,h4,h5⟩
 ·cases e
 ·cases e
  by_cases ht:tl=[]
  ·subst ht
   exact Or.inl ⟨rfl,_,_,rfl⟩
  ·have hl:0<tl.length:=by
    cases tl with
    | nil=>exact absurd rfl ht
    | cons=>simp
   have h2':tl.length+1<=cap:=h2
   rw [if_neg (by omega)]
   refine Or.inr ⟨g,o+3,cap-1,rfl,by omega,h3,h4,λj y hj=>?_⟩
   have:=h5 (j+1) y hj
   rw [show o+3+3*j=o+3*(j+1) by omega]
   exact this
theorem Lk.press {M:Mach} {n:Int} {l:List Wt} (hF:Fb F N) (hI:BI F N w ⟨M,n,l⟩) (hc:CB F N c vco vln vsm w) (hco:InpAt F.B w vco l0) (hok:∀ x∈l0,x.ok):Calls Tryz.prog 59 #[pt c 0] w λe w'=>e = .returned (.tuple #[]) /\ ∃ vco',XP F N c vln vsm w ⟨M,n,l⟩ ⟨M.pressed l0,n,l⟩ vco' (M.coming l0) w':=by
 have HF:=hid hF
 have H0:Hid (XP F N c vln vsm w ⟨M,n,l⟩ ⟨M,n,l⟩ vco l0 w):=⟨(NM.refl hF hI (st0 w)).km,hc,hco⟩
 obtain ⟨s0,hs0⟩:∃ s0:Bst,s0=⟨M,n,l⟩:=⟨_,rfl⟩
 have HOK0:=hid hok
 clear hF hI hc hco hok
 go_enter Tryz.func59,Tryz.ntmps59
 go_wp2
 go_loopw [] (λwr=>∃ (M1:Mach) (l1:List Inp) (v1:Value),XP F N c vln vsm w ⟨M,n,l⟩ ⟨M1,n,l⟩ v1 l1 wr/\M1.pressed l1=M.pressed l0/\M1.coming l1=M.coming l0 /\ ∀ x∈l1,x.ok) (λwr=>left c wr)
 case atStart=>exact ⟨M,l0,vco,H0.out,rfl,rfl,HOK0.out⟩
 case round =>
  clear H0
  obtain ⟨M1,l1,v1,hX,hp,hcm,hok⟩:=hrel
  have HX0:=hid hX
  have HPE:=hid hp
  have HCE:=hid hcm
  have HOKS:=hid hok
  obtain ⟨vB,hB⟩:=hX.km.i.bd
  have k0:=hX.cb.bx.at 0 _ rfl
  have k1:=hX.cb.bx.at 1 v1 rfl
  have kz:=hX.cb.z
  have kf:=hX.cb.bx.f 1
  have m72:=hB.at 72 (.int .i64 M1.clock) rfl
  have mz:=hB.bx.z
  have hco:=hX.co
  clear hX hp hcm hok hB
  cases l1 with
  | nil =>
   obtain ⟨a1,q1,e1⟩:=hco.len
   clear hco
   subst e1
   go_wp2
   go_quiet (fail)
   go_wp2
   go_end0
   exact ⟨rfl,_,by have h:=HX0.out.kept HF.out (Bl.drewN (st0 wr) nq);rw [<- HPE.out,<- HCE.out];exact h⟩
  | cons x tl =>
   rcases hco with ⟨e,_⟩|⟨g,o,cap,rfl,hcap,hgB,hgz,hcs⟩
   ·cases e
   ·obtain ⟨y0,y1,y2⟩:=hcs 0 x rfl
    have x0:wr.cell? ⟨g,o,none⟩=some (.int .i64 x.c):=y0
    have x1:wr.cell? ⟨g,o+1,none⟩=some (.int .i64 x.p):=y1
    have x2:wr.cell? ⟨g,o+2,none⟩=some (.int .u8 x.d):=y2
    clear y0 y1 y2
    have HCS:=hid hcs
    have HGB:=hid hgB
    have HCAP:=hid hcap
    have hlen:((x::tl).length:Int)=(tl.length:Int)+1:=by simp
    have hlen0:(0:Int)<(tl.length:Int)+1:=by omega
    clear hcs hgB
    by_cases hle:x.c<=M1.clock
    ·have hx:=HOKS.out x (List.mem_cons_self ..)
     have HOK:=hid hx
     clear hx
     have HLE:=hid hle
     go_wp2
     go_quiet (fail)
     go_upto_region 1 with fail
     refine Pl.cutW (XP F N c vln vsm w ⟨M,n,l⟩ ⟨M1,n,l⟩ (.slice (some ⟨g,o,none⟩) (x::tl).length cap) (x::tl)) (HX0.out.kept HF.out (Bl.drewN (st0 wr) nq)) ?_
     intro Y hY
     have HLF:Hid (left c wr=tl.length+1):=hid (zgx k1)
     clear x0 x1 x2 k0 k1 kz kf m72 mz hgz hle HX0
     have HY0:=hid hY
     have k1:=hY.cb.bx.at 1 (.slice (some ⟨g,o,none⟩) (tl.length+1) cap) rfl
     have k0:=hY.cb.bx.at 0 _ rfl
     have kz:=hY.cb.z
     rcases hY.co with ⟨e,_⟩|⟨g',o',cap',e,hcap',hgB,hgz,hcs⟩
     ·cases e
     ·cases e
      obtain ⟨y0,y1,y2⟩:=hcs 0 x rfl
      have x0:Y.cell? ⟨g,o,none⟩=some (.int .i64 x.c):=y0
      have x1:Y.cell? ⟨g,o+1,none⟩=some (.int .i64 x.p):=y1
      have x2:Y.cell? ⟨g,o+2,none⟩=some (.int .u8 x.d):=y2
      clear y0 y1 y2 hY
      go_upto_region 2 with fail
      refine Pl.cutW (XQ F N c vln vsm w ⟨M,n,l⟩ ⟨M1,n,l⟩ (.slice (some ⟨g,o,none⟩) (x::tl).length cap) (x::tl) Y.heap.size x) ⟨HY0.out.kept HF.out (stA (st0 Y) _),Bx.new Y [.int .i64 x.c,.int .i64 x.p,.int .u8 x.d] _ rfl⟩ ?_
      intro U hU
      have HX:=hid (hU.kept' HF.out (st0 U).drew)
      clear k0 k1 kz x0 x1 x2 hgB hgz hcs hcap' HY0
      rcases HOK.out.p with hp|hp
      ·have HP:=hid hp
       have hS:=(hU.kept' HF.out (st0 U).drew).q0 hp
       clear hU hp
       refine zac (S:=λw'=>w'.cell? ⟨c,0,none⟩=some (pt F.g 0)/\w'.cell? ⟨Y.heap.size,1,none⟩=some (.int .i64 0)/\w'.cell? ⟨Y.heap.size,2,none⟩=some (.int .u8 x.d)/\w'.rangeAt F.g 35 [.int .u8 M1.p0.d,.bool M1.p0.l,.int .u8 M1.p0.s]) (st:=22) (by kernel_rfl) ?_
       refine tqG 0 ⟨some 32,_,_,_,_,none⟩ (λ_=>hS) ?_
       simp only [Act.put,xA,xB,xC]
       refine tqG 1 ⟨some 33,_,_,_,_,none⟩ (λ_=>hS) ?_
       simp only [Act.put,xA,xB,xC]
       refine tqG 2 ⟨some 34,_,_,_,_,none⟩ (λ_=>hS) ?_
       simp only [Act.put,xA,xB,xC]
       refine tqG 4 ⟨some 36,_,_,_,_,none⟩ (λ_=>hS) ?_
       simp only [Act.put,xA,xB,xC]
       refine tqG 6 ⟨some 38,_,_,_,_,none⟩ (λ_=>hS) ?_
       simp only [Act.put,xA,xB,xC]
       refine tqG 7 ⟨some 39,_,_,_,_,none⟩ (λ_=>hS) ?_
       simp only [Act.put,xA,xB,xC]
       refine tqG 8 ⟨some 40,_,_,_,_,none⟩ (λ_=>hS) ?_
       simp only [Act.put,xA,xB,xC]
       refine tqG 10 ⟨some 42,_,_,_,_,none⟩ (λ_=>hS) ?_
       simp only [Act.put,xA,xB,xC]
       refine tqG 16 ⟨some 48,_,_,_,_,none⟩ (λ_=>hS) ?_
       simp only [Act.put,xA,xB,xC]
       refine zaf (i:=3) (oi:=⟨some 35,_,_,_,_,none⟩) (v:=pt F.g 0) rfl (by kernel_rfl) (by kernel_rfl) (by kernel_rfl) (by kernel_rfl) (by decide) (by kernel_rfl) (λ_ _ _ h=>h) (Or.inl ⟨by rfl,?_⟩) hS ?_
       ·intro w' hSw
        have hcc:=hSw.1
        have hcz:=World.block_lt_of_cell? w' _ hcc
        go_simp
        try (with_reducible rfl)
       simp only [Act.put,xA,xB,xC]
       refine zaf (i:=5) (oi:=⟨some 37,_,_,_,_,none⟩) (v:=.int .i64 0) rfl (by kernel_rfl) (by kernel_rfl) (by kernel_rfl) (by kernel_rfl) (by decide) (by kernel_rfl) (λ_ _ _ h=>h) (Or.inl ⟨by rfl,?_⟩) hS ?_
       ·intro w' hSw
        have hcc:=hSw.2.1
        have hcz:=World.block_lt_of_cell? w' _ hcc
        go_simp
        try (with_reducible rfl)
       simp only [Act.put,xA,xB,xC]
       refine zaf (i:=9) (oi:=⟨some 41,_,_,_,_,none⟩) (v:=pt F.g 0) rfl (by kernel_rfl) (by kernel_rfl) (by kernel_rfl) (by kernel_rfl) (by decide) (by kernel_rfl) (λ_ _ _ h=>h) (Or.inl ⟨by rfl,?_⟩) hS ?_
       ·intro w' hSw
        have hcc:=hSw.1
        have hcz:=World.block_lt_of_cell? w' _ hcc
        go_simp
        try (with_reducible rfl)
       simp only [Act.put,xA,xB,xC]
       refine zaf (i:=11) (oi:=⟨some 43,_,_,_,_,none⟩) (v:=.int .i64 0) rfl (by kernel_rfl) (by kernel_rfl) (by kernel_rfl) (by kernel_rfl) (by decide) (by kernel_rfl) (λ_ _ _ h=>h) (Or.inl ⟨by rfl,?_⟩) hS ?_
       ·intro w' hSw
        have hcc:=hSw.2.1
        have hcz:=World.block_lt_of_cell? w' _ hcc
        go_simp
        try (with_reducible rfl)
       simp only [Act.put,xA,xB,xC]
       refine zaf (i:=17) (oi:=⟨some 49,_,_,_,_,none⟩) (v:=.int .u8 x.d) rfl (by kernel_rfl) (by kernel_rfl) (by kernel_rfl) (by kernel_rfl) (by decide) (by kernel_rfl) (λ_ _ _ h=>h) (Or.inl ⟨by rfl,?_⟩) hS ?_
       ·intro w' hSw
        have hcc:=hSw.2.2.1
        have hcz:=World.block_lt_of_cell? w' _ hcc
        go_simp
        try (with_reducible rfl)
       simp only [Act.put,xA,xB,xC]
       refine tqG 12 ⟨some 44,_,_,_,_,none⟩ (λ_=>hS) ?_
       simp only [Act.put,xA,xB,xC]
       refine tqG 13 ⟨some 45,_,_,_,_,none⟩ (λ_=>hS) ?_
       simp only [Act.put,xA,xB,xC]
       refine tqG 14 ⟨some 46,_,_,_,_,none⟩ (λ_=>hS) ?_
       simp only [Act.put,xA,xB,xC]
       refine tqG 19 ⟨some 51,_,_,_,_,none⟩ (λ_=>hS) ?_
       simp only [Act.put,xA,xB,xC]
       refine tqG 20 ⟨some 52,_,_,_,_,none⟩ (λ_=>hS) ?_
       simp only [Act.put,xA,xB,xC]
       refine zaf (i:=15) (oi:=⟨some 47,_,_,_,_,none⟩) (v:=.agg ([.int .u8 M1.p0.d,.bool M1.p0.l,.int .u8 M1.p0.s]).toArray) rfl (by kernel_rfl) (by kernel_rfl) (by kernel_rfl) (by kernel_rfl) (by decide) (by kernel_rfl) (λ_ _ _ h=>h) (Or.inl ⟨by rfl,λw' hSw=>zai 28 _ rfl F.g 35 rfl ([.int .u8 M1.p0.d,.bool M1.p0.l,.int .u8 M1.p0.s]) _ hSw.2.2.2 Tryz.underlying28 rfl zcd⟩) hS ?_
       simp only [Act.put,xA,xB,xC]
       refine zaa (i:=18) (o:=⟨some 50,_,_,_,_,none⟩) (by kernel_rfl) rfl (λK hK=>?_)
       go_simp
       go_at_call 110
       refine (zfz _ _ _ _ _).mono ?_
       rintro e w2 ⟨rfl,hb2⟩
       have HX1:=hid (HX.out.kept' HF.out hb2)
       clear hb2
       try go_wp2_with fail
       refine hK.out _ _ (λ_=>HX1.out.q0 HP.out) ?_
       clear hK K
       try simp only [Act.put,xA,xB,xC]
       clear hS
       have hS:=HX1.out.q0 HP.out
       refine tqG 21 ⟨some 53,_,_,_,_,none⟩ (λ_=>hS) ?_
       simp only [Act.put,xA,xB,xC]
       obtain ⟨v2,hB2⟩:=HX1.out.km.i.bd
       have HB2:=hid hB2
       clear hB2
       refine zaa (i:=22) (o:=⟨none,_,_,_,_,none⟩) (by kernel_rfl) rfl (λK hK=>?_)
       refine zam rfl 28 _ _ rfl F.g 35 _ rfl rfl (Bx.there HB2.out.bx 35 3 (by rw [Fx.len];omega)) zcd (zj7 (M1.p0.press x.d)) ?_
       refine hK.out _ _ (λh=>by simp at h) ?_
       clear hK K
       refine zab (by kernel_rfl) ?_ _
       have hpe:M1.press x={ M1 with p0:=M1.p0.press x.d }:=if_pos HP.out
       refine Pl.cutE (XP F N c vln vsm w ⟨M,n,l⟩ ⟨M1.press x,n,l⟩ (.slice (some ⟨g,o,none⟩) (x::tl).length cap) (x::tl)) ?_ ?_
       ·have hx:NM F N w2 ⟨M1,n,l⟩ ⟨M1.press x,n,l⟩ (w2.setCells F.g 35 [.int .u8 x.d,.bool M1.p0.l,.int .u8 (sel M1.p0.l x.d M1.p0.s)]):=NM.of (s':=⟨M1.press x,n,l⟩) HF.out HX1.out.km.i HX1.out.km.i.n (v:=v2) (by rw [hpe];exact HB2.out.puts (M':={ M1 with p0:=M1.p0.press x.d }) (tk':=⟨n,l,v2⟩) 35 [.int .u8 x.d,.bool M1.p0.l,.int .u8 (sel M1.p0.l x.d M1.p0.s)] (by simp) rfl ⟨rfl,rfl,rfl,rfl,rfl⟩ (hpe ▸ zf0 HB2.out.fit HOK.out)) (Bt.sets HB2.out.nd _ 35 _ (Bt.refl F w2))
        exact ⟨HX1.out.km.trans hx.km,hx.cb HX1.out.cb,HX1.out.co.kept hx.m.below⟩
       clear hpe
       intro V hV
       have k1:=hV.cb.bx.at 1 (.slice (some ⟨g,o,none⟩) (tl.length+1) cap) rfl
       have kz:=hV.cb.z
       have kf:=hV.cb.bx.f 1
       have HV:=hid hV
       have hcp:tl.length+1<=cap:=HCAP.out
       clear hV HX HX1 HB2 hS
       go_wp2
       refine ⟨⟨M1.press x,tl,_,⟨HV.out.km.set HF.out (HV.out.cb.big HV.out.km.i HF.out) HV.out.cb 1 _,HV.out.cb.put1 _,?_⟩,by rw [<- HPE.out,zcX HLE.out],by rw [<- HCE.out,zdx HLE.out],λy hy=>HOKS.out y (List.mem_cons_of_mem _ hy)⟩,?_⟩
       ·exact ((HV.out.co.tail).kept (Below.setCell (Below.refl _ _) (HV.out.cb.big HV.out.km.i HF.out) _))
       ·rw [HLF.out,zgx (Bx.at (HV.out.cb.put1 _).bx 1 _ rfl)]
        omega
      ·have HP:=hid hp
       have hS:=(hU.kept' HF.out (st0 U).drew).q1 hp
       clear hU hp
       refine zac (S:=λw'=>w'.cell? ⟨c,0,none⟩=some (pt F.g 0)/\w'.cell? ⟨Y.heap.size,1,none⟩=some (.int .i64 1)/\w'.cell? ⟨Y.heap.size,2,none⟩=some (.int .u8 x.d)/\w'.rangeAt F.g 38 [.int .u8 M1.p1.d,.bool M1.p1.l,.int .u8 M1.p1.s]) (st:=22) (by kernel_rfl) ?_
       refine tqG 0 ⟨some 32,_,_,_,_,none⟩ (λ_=>hS) ?_
       simp only [Act.put,xA,xB,xC]
       refine tqG 1 ⟨some 33,_,_,_,_,none⟩ (λ_=>hS) ?_
       simp only [Act.put,xA,xB,xC]
       refine tqG 2 ⟨some 34,_,_,_,_,none⟩ (λ_=>hS) ?_
       simp only [Act.put,xA,xB,xC]
       refine tqG 4 ⟨some 36,_,_,_,_,none⟩ (λ_=>hS) ?_
       simp only [Act.put,xA,xB,xC]
       refine tqG 6 ⟨some 38,_,_,_,_,none⟩ (λ_=>hS) ?_
       simp only [Act.put,xA,xB,xC]
       refine tqG 7 ⟨some 39,_,_,_,_,none⟩ (λ_=>hS) ?_
       simp only [Act.put,xA,xB,xC]
       refine tqG 8 ⟨some 40,_,_,_,_,none⟩ (λ_=>hS) ?_
       simp only [Act.put,xA,xB,xC]
       refine tqG 10 ⟨some 42,_,_,_,_,none⟩ (λ_=>hS) ?_
       simp only [Act.put,xA,xB,xC]
       refine tqG 16 ⟨some 48,_,_,_,_,none⟩ (λ_=>hS) ?_
       simp only [Act.put,xA,xB,xC]
       refine zaf (i:=3) (oi:=⟨some 35,_,_,_,_,none⟩) (v:=pt F.g 0) rfl (by kernel_rfl) (by kernel_rfl) (by kernel_rfl) (by kernel_rfl) (by decide) (by kernel_rfl) (λ_ _ _ h=>h) (Or.inl ⟨by rfl,?_⟩) hS ?_
       ·intro w' hSw
        have hcc:=hSw.1
        have hcz:=World.block_lt_of_cell? w' _ hcc
        go_simp
        try (with_reducible rfl)
       simp only [Act.put,xA,xB,xC]
       refine zaf (i:=5) (oi:=⟨some 37,_,_,_,_,none⟩) (v:=.int .i64 1) rfl (by kernel_rfl) (by kernel_rfl) (by kernel_rfl) (by kernel_rfl) (by decide) (by kernel_rfl) (λ_ _ _ h=>h) (Or.inl ⟨by rfl,?_⟩) hS ?_
       ·intro w' hSw
        have hcc:=hSw.2.1
        have hcz:=World.block_lt_of_cell? w' _ hcc
        go_simp
        try (with_reducible rfl)
       simp only [Act.put,xA,xB,xC]
       refine zaf (i:=9) (oi:=⟨some 41,_,_,_,_,none⟩) (v:=pt F.g 0) rfl (by kernel_rfl) (by kernel_rfl) (by kernel_rfl) (by kernel_rfl) (by decide) (by kernel_rfl) (λ_ _ _ h=>h) (Or.inl ⟨by rfl,?_⟩) hS ?_
       ·intro w' hSw
        have hcc:=hSw.1
        have hcz:=World.block_lt_of_cell? w' _ hcc
        go_simp
        try (with_reducible rfl)
       simp only [Act.put,xA,xB,xC]
       refine zaf (i:=11) (oi:=⟨some 43,_,_,_,_,none⟩) (v:=.int .i64 1) rfl (by kernel_rfl) (by kernel_rfl) (by kernel_rfl) (by kernel_rfl) (by decide) (by kernel_rfl) (λ_ _ _ h=>h) (Or.inl ⟨by rfl,?_⟩) hS ?_
       ·intro w' hSw
        have hcc:=hSw.2.1
        have hcz:=World.block_lt_of_cell? w' _ hcc
        go_simp
        try (with_reducible rfl)
       simp only [Act.put,xA,xB,xC]
       refine zaf (i:=17) (oi:=⟨some 49,_,_,_,_,none⟩) (v:=.int .u8 x.d) rfl (by kernel_rfl) (by kernel_rfl) (by kernel_rfl) (by kernel_rfl) (by decide) (by kernel_rfl) (λ_ _ _ h=>h) (Or.inl ⟨by rfl,?_⟩) hS ?_
       ·intro w' hSw
        have hcc:=hSw.2.2.1
        have hcz:=World.block_lt_of_cell? w' _ hcc
        go_simp
        try (with_reducible rfl)
       simp only [Act.put,xA,xB,xC]
       refine tqG 12 ⟨some 44,_,_,_,_,none⟩ (λ_=>hS) ?_
       simp only [Act.put,xA,xB,xC]
       refine tqG 13 ⟨some 45,_,_,_,_,none⟩ (λ_=>hS) ?_
       simp only [Act.put,xA,xB,xC]
       refine tqG 14 ⟨some 46,_,_,_,_,none⟩ (λ_=>hS) ?_
       simp only [Act.put,xA,xB,xC]
       refine tqG 19 ⟨some 51,_,_,_,_,none⟩ (λ_=>hS) ?_
       simp only [Act.put,xA,xB,xC]
       refine tqG 20 ⟨some 52,_,_,_,_,none⟩ (λ_=>hS) ?_
       simp only [Act.put,xA,xB,xC]
       refine zaf (i:=15) (oi:=⟨some 47,_,_,_,_,none⟩) (v:=.agg ([.int .u8 M1.p1.d,.bool M1.p1.l,.int .u8 M1.p1.s]).toArray) rfl (by kernel_rfl) (by kernel_rfl) (by kernel_rfl) (by kernel_rfl) (by decide) (by kernel_rfl) (λ_ _ _ h=>h) (Or.inl ⟨by rfl,λw' hSw=>zai 28 _ rfl F.g 38 rfl ([.int .u8 M1.p1.d,.bool M1.p1.l,.int .u8 M1.p1.s]) _ hSw.2.2.2 Tryz.underlying28 rfl zcd⟩) hS ?_
       simp only [Act.put,xA,xB,xC]
       refine zaa (i:=18) (o:=⟨some 50,_,_,_,_,none⟩) (by kernel_rfl) rfl (λK hK=>?_)
       go_simp
       go_at_call 110
       refine (zfz _ _ _ _ _).mono ?_
       rintro e w2 ⟨rfl,hb2⟩
       have HX1:=hid (HX.out.kept' HF.out hb2)
       clear hb2
       try go_wp2_with fail
       refine hK.out _ _ (λ_=>HX1.out.q1 HP.out) ?_
       clear hK K
       try simp only [Act.put,xA,xB,xC]
       clear hS
       have hS:=HX1.out.q1 HP.out
       refine tqG 21 ⟨some 53,_,_,_,_,none⟩ (λ_=>hS) ?_
       simp only [Act.put,xA,xB,xC]
       obtain ⟨v2,hB2⟩:=HX1.out.km.i.bd
       have HB2:=hid hB2
       clear hB2
       refine zaa (i:=22) (o:=⟨none,_,_,_,_,none⟩) (by kernel_rfl) rfl (λK hK=>?_)
       refine zam rfl 28 _ _ rfl F.g 38 _ rfl rfl (Bx.there HB2.out.bx 38 3 (by rw [Fx.len];omega)) zcd (zj7 (M1.p1.press x.d)) ?_
       refine hK.out _ _ (λh=>by simp at h) ?_
       clear hK K
       refine zab (by kernel_rfl) ?_ _
       have hpe:M1.press x={ M1 with p1:=M1.p1.press x.d }:=if_neg (by rw [HP.out];decide)
       refine Pl.cutE (XP F N c vln vsm w ⟨M,n,l⟩ ⟨M1.press x,n,l⟩ (.slice (some ⟨g,o,none⟩) (x::tl).length cap) (x::tl)) ?_ ?_
       ·have hx:NM F N w2 ⟨M1,n,l⟩ ⟨M1.press x,n,l⟩ (w2.setCells F.g 38 [.int .u8 x.d,.bool M1.p1.l,.int .u8 (sel M1.p1.l x.d M1.p1.s)]):=NM.of (s':=⟨M1.press x,n,l⟩) HF.out HX1.out.km.i HX1.out.km.i.n (v:=v2) (by rw [hpe];exact HB2.out.puts (M':={ M1 with p1:=M1.p1.press x.d }) (tk':=⟨n,l,v2⟩) 38 [.int .u8 x.d,.bool M1.p1.l,.int .u8 (sel M1.p1.l x.d M1.p1.s)] (by simp) rfl ⟨rfl,rfl,rfl,rfl,rfl⟩ (hpe ▸ zf0 HB2.out.fit HOK.out)) (Bt.sets HB2.out.nd _ 38 _ (Bt.refl F w2))
        exact ⟨HX1.out.km.trans hx.km,hx.cb HX1.out.cb,HX1.out.co.kept hx.m.below⟩
       clear hpe
       intro V hV
       have k1:=hV.cb.bx.at 1 (.slice (some ⟨g,o,none⟩) (tl.length+1) cap) rfl
       have kz:=hV.cb.z
       have kf:=hV.cb.bx.f 1
       have HV:=hid hV
       have hcp:tl.length+1<=cap:=HCAP.out
       clear hV HX HX1 HB2 hS
       go_wp2
       refine ⟨⟨M1.press x,tl,_,⟨HV.out.km.set HF.out (HV.out.cb.big HV.out.km.i HF.out) HV.out.cb 1 _,HV.out.cb.put1 _,?_⟩,by rw [<- HPE.out,zcX HLE.out],by rw [<- HCE.out,zdx HLE.out],λy hy=>HOKS.out y (List.mem_cons_of_mem _ hy)⟩,?_⟩
       ·exact ((HV.out.co.tail).kept (Below.setCell (Below.refl _ _) (HV.out.cb.big HV.out.km.i HF.out) _))
       ·rw [HLF.out,zgx (Bx.at (HV.out.cb.put1 _).bx 1 _ rfl)]
        omega
    ·have HLE:=hid hle
     have hle':M1.clock<x.c:=by omega
     clear hle
     go_wp2
     go_quiet (fail)
     go_wp2
     go_end0
     exact ⟨rfl,_,by have h:=HX0.out.kept HF.out (Bl.drewN (st0 wr) nq);rw [<- HPE.out,<- HCE.out,zfZ (Int.not_le.2 HLE.out),zgw (Int.not_le.2 HLE.out)];exact h⟩
end
end Go.Proofs.YtbennamieealbaaGreatDoor
