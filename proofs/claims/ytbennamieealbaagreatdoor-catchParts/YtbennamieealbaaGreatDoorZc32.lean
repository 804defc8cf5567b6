/-
  Parts of a proof, joined.
-/
import Derived.Test.YtbennamieealbaaGreatDoorZc25
import Derived.Test.YtbennamieealbaaGreatDoorZc31
import Derived.Test.YtbennamieealbaaGreatDoorZc27
import Derived.Test.YtbennamieealbaaGreatDoorZc07
import Derived.Test.YtbennamieealbaaGreatDoorZc29
import Derived.Test.YtbennamieealbaaGreatDoorZc28
set_option linter.unusedVariables false
set_option maxRecDepth 100000
set_option maxHeartbeats 3200000
namespace Go.Proofs.YtbennamieealbaaGreatDoor
open Go.ChangeShapes Go.WideShapes Go.ChangeAt Go.RowKit
section
variable {F : Fx} {W : World} {M M' : Mach} {tk : Tk}
theorem Lk.run1 (b:Bem) (w:World) (h:BOr b.l b.a b.f):Calls Tryz.prog 66 #[.agg #[.int .i64 b.l,.int .i64 b.a,.bool b.g,.int .i64 b.f],.int .i64 1] w λe w'=>∃ x,e = .returned (.tuple #[.agg #[.int .i64 b.one.l,.int .i64 b.one.a,.bool b.one.g,.int .i64 b.one.f],.int .i64 x])/\Below w.heap.size w w':=by
 unfold Bem.one
 by_cases hk:bok b.l b.a b.f=true
 ·rw [if_pos hk]
  refine (zfm b.l b.a b.f 1 b.g w ((zax _ _ _).1 hk) ⟨by decide,by decide⟩).mono ?_
  rintro e w1 ⟨rfl,hb⟩
  exact ⟨_,rfl,hb⟩
 ·rw [if_neg hk]
  refine (zfn b.l b.a b.f 1 b.g w (Or.inl (λx=>hk ((zax _ _ _).2 x)))).mono ?_
  rintro e w1 ⟨rfl,hb⟩
  exact ⟨_,rfl,hb⟩
def GW (F:Fx) (W:World) (M:Mach) (tk:Tk) (Y:World):Prop:=Bd F Y M tk/\Bt F W Y
theorem Lk.goOn (h:Bd F W M tk) (hc:M.clock<200000):Calls Tryz.prog 36 #[pt F.g 0] W λe w'=>e = .returned (.tuple #[])/\Bd F w' M.goOn tk/\Bt F W w':=by
 have c0:=h.at 41 (.int .u16 M.t.r) rfl
 have c1:=h.at 42 (.int .u16 M.t.c) rfl
 have c2:=h.at 43 (.bool M.t.on) rfl
 have c3:=h.at 44 (.bool M.t.g) rfl
 have ff:=h.bx.f
 have hg:=h.bx.z
 have hf:=h.fit
 have hff:=zoR hf hc
 have HFF:=hid hff
 have HF:=hid hf
 have H:=hid h
 have HC:=hid hc
 have hcl:=hf.clock
 obtain ⟨T1,hT1⟩:∃ T1:TM,T1=⟨M.t.r,tkC M.t.r M.t.c M.t.on,M.t.on,tkG M.t.c M.t.on M.t.g⟩:=⟨_,rfl⟩
 have HT1:=hid hT1
 clear h hf hff hc hT1
 go_enter Tryz.func36,Tryz.ntmps36
 go_upto_region 1 with (go_at_call 64;refine (ziq _ _ _ _ _ HF.out.tc).mono ?_;rintro e w1 ⟨rfl,hb1⟩;obtain ⟨k1,f1⟩:=bcell hb1;have z2:F.g<w1.heap.size:=zdl hg hb1 (by simp))
 refine Pl.cutW (GW F W { M with t:=T1 } tk) ⟨by rw [HT1.out];exact (H.out.kept hb1).puts (M':={ M with t:=⟨M.t.r,tkC M.t.r M.t.c M.t.on,M.t.on,tkG M.t.c M.t.on M.t.g⟩ }) (tk':=tk) 41 [.int .u16 M.t.r,.int .u16 (tkC M.t.r M.t.c M.t.on),.bool M.t.on,.bool (tkG M.t.c M.t.on M.t.g)] (by simp) rfl ⟨rfl,rfl,rfl,rfl,rfl⟩ { HF.out with main:=HF.out.main,tr:=HF.out.tr,tc:=tk_bd HF.out.tr HF.out.tc },Bt.sets H.out.nd [.int .u16 M.t.r,.int .u16 (tkC M.t.r M.t.c M.t.on),.bool M.t.on,.bool (tkG M.t.c M.t.on M.t.g)] 41 _ (Bt.kept (Bt.refl F W) H.out.big hb1)⟩ ?_
 intro Y hY
 have HY:=hid hY.1
 have HYT:=hid hY.2
 clear hY hb1 k1 f1 z2 c0 c1 c2 c3 ff hg
 obtain ⟨M1,hM1⟩:∃ M1:Mach,M1={ M with t:=T1 }:=⟨_,rfl⟩
 rw [<- hM1] at HY
 have HM1:=hid hM1
 have hs1:M1.s=M.s:=by rw [hM1]
 have hsf:M1.s.fit:=by rw [hs1];exact { HF.out.s with w:=HF.out.w }
 have HSF:=hid hsf
 clear hM1 hs1 hsf
 go_upto_region 2 with (first
  | (refine wpList_load_mid rfl 36 _ rfl F.g 45 rfl (sndL M1.s) _ HY.out.sndR Tryz.underlying36 rfl zag ?_)
  | (go_at_call 65;refine (zfa M1.s 1 _ HSF.out (by decide)).mono ?_;rintro e w2 ⟨v2,rfl,hs2,hb2⟩;have HB2:=hid hb2;have HS2:=hid (HY.out.kept hb2);clear hs2 hb2)
  | (refine wpList_store_mid rfl 36 _ _ rfl F.g 45 (sndL (M1.s.ticks 1)).toArray rfl rfl (Bx.there HS2.out.bx 45 16 (by rw [Fx.len];omega)) zag (all16 (M1.s.ticks 1)) ?_
     refine Pl.cutL (GW F W { M1 with s:=M1.s.ticks 1 } tk) ⟨HS2.out.puts (M':={ M1 with s:=M1.s.ticks 1 }) (tk':=tk) 45 (sndL (M1.s.ticks 1)) (by simp [sndL]) (F.putSnd M1 tk _) ⟨rfl,rfl,rfl,rfl,rfl⟩ { HS2.out.fit with main:=HS2.out.fit.main,s:=(Sd.ticks_fit HSF.out 1).took,w:=(Sd.ticks_fit HSF.out 1).w },Bt.sets HY.out.nd (sndL (M1.s.ticks 1)) 45 _ (Bt.kept HYT.out HY.out.big HB2.out)⟩ ?_
     intro Z hZ
     have HZ:=hid hZ.1
     have HZT:=hid hZ.2
     clear hZ))
 obtain ⟨M2,hM2⟩:∃ M2:Mach,M2={ M1 with s:=M1.s.ticks 1 }:=⟨_,rfl⟩
 rw [<- hM2] at HZ
 have HM2:=hid hM2
 have b0:=HZ.out.at 61 (.int .i64 M2.b.l) rfl
 have b1:=HZ.out.at 62 (.int .i64 M2.b.a) rfl
 have b2:=HZ.out.at 63 (.bool M2.b.g) rfl
 have b3:=HZ.out.at 64 (.int .i64 M2.b.f) rfl
 have ff:=HZ.out.bx.f
 have hg:=HZ.out.bx.z
 clear hM2 HY HYT HB2 HS2
 go_upto_region 3 with (go_at_call 66;refine (Lk.run1 M2.b _ HZ.out.fit.b).mono ?_;rintro e w3 ⟨x3,rfl,hb3⟩;obtain ⟨k3,f3⟩:=bcell hb3;have z3:F.g<w3.heap.size:=zdl hg hb3 (by simp))
 refine Pl.cutW (GW F W { M2 with b:=M2.b.one } tk) ⟨(HZ.out.kept hb3).puts (M':={ M2 with b:=M2.b.one }) (tk':=tk) 61 [.int .i64 M2.b.one.l,.int .i64 M2.b.one.a,.bool M2.b.one.g,.int .i64 M2.b.one.f] (by simp) rfl ⟨rfl,rfl,rfl,rfl,rfl⟩ { HZ.out.fit with main:=HZ.out.fit.main,b:=Bem.one_ok HZ.out.fit.b },Bt.sets HZ.out.nd [.int .i64 M2.b.one.l,.int .i64 M2.b.one.a,.bool M2.b.one.g,.int .i64 M2.b.one.f] 61 _ (Bt.kept HZT.out HZ.out.big hb3)⟩ ?_
 intro V hV
 obtain ⟨M3,hM3⟩:∃ M3:Mach,M3={ M2 with b:=M2.b.one }:=⟨_,rfl⟩
 rw [<- hM3] at hV
 have HV:=hid hV.1
 have HVT:=hid hV.2
 have hE:M.goOn={ M3 with clock:=M3.clock+1 }:=by
  rw [hM3,HM2.out,HM1.out,HT1.out];rfl
 have HE:=hid hE
 have hcl3:0<=M3.clock/\M3.clock<=200000:=by rw [hM3,HM2.out,HM1.out];exact hcl
 have d0:=HV.out.at 72 (.int .i64 M3.clock) rfl
 have df:=HV.out.bx.f 72
 have dz:=HV.out.bx.z
 have hwr:IntKind.i64.wrap (M3.clock+1)=M3.clock+1:=by rw [IntKind.wrap_i64];omega
 clear hV hM3 hE hb3 k3 f3 z3 b0 b1 b2 b3 ff hg HZ HZT hcl
 go_wp2
 go_end0
 refine ⟨rfl,?_,Bt.set HV.out.nd HVT.out 72 _⟩
 rw [HE.out]
 exact HV.out.put 72 _ (by omega) rfl ⟨rfl,rfl,rfl,rfl,rfl⟩ (by rw [<- HE.out];exact HFF.out)
end
theorem Ct.asleep (c:C.Cpu) (g:Bool) (w:World):Calls Tryz.prog 187 #[.agg (cpuL c).toArray,.bool g] w λe w'=>e = .returned (.bool (c.Waits && !(g && c.May)))/\Below w.heap.size w w':=by
 have hB:=Bx.new w (cpuL c) 25 (b:=w.heap.size) rfl
 have c14:=hB.at 14 (.bool c.Waits) rfl
 have c13:=hB.at 13 (.bool c.May) rfl
 have hz:=hB.z
 obtain ⟨x,hx⟩:∃ x,x=c.Waits:=⟨_,rfl⟩
 obtain ⟨y,hy⟩:∃ y,y=c.May:=⟨_,rfl⟩
 rw [<- hx] at c14 ⊢
 rw [<- hy] at c13 ⊢
 clear hx hy hB
 cases x <;> cases g <;> cases y
 all_goals
  go_enter Tryz.func187,Tryz.ntmps187
  go_wp2
  go_ret
  exact ⟨rfl,stA (st0 w) _⟩
theorem Ct.nextPress {B:Nat} {w:World} {v:Value} (q:Cs) (h:InpAt B w v q.co):Calls Tryz.prog 95 #[v] w λe w'=>e = .returned (.int .i64 q.nxP)/\w=w':=by
 obtain ⟨s,l,ln,sm⟩:=q
 cases l with
 | nil =>
  obtain ⟨a,k,rfl⟩:=h.len
  go_enter Tryz.func95,Tryz.ntmps95
  go_wp2
  go_ret
  exact ⟨rfl,rfl⟩
 | cons x tl =>
  rcases h with ⟨e,_⟩|⟨g,o,cap,rfl,h1,h2,h3,h4⟩
  ·cases e
  ·obtain ⟨y0,_,_⟩:=h4 0 x rfl
   have x0:w.cell? ⟨g,o,none⟩=some (.int .i64 x.c):=y0
   have hq:(((tl.length:Int)+1) == 0)=false:=by simp;omega
   have hlen0:(0:Int)<(tl.length:Int)+1:=by omega
   clear y0 h4 h1 h2
   go_enter Tryz.func95,Tryz.ntmps95
   go_wp2
   go_ret
   exact ⟨rfl,rfl⟩
theorem Ct.toLine (b:Bem) (w:World) (h:BOr b.l b.a b.f):Calls Tryz.prog 97 #[.agg #[.int .i64 b.l,.int .i64 b.a,.bool b.g,.int .i64 b.f]] w λe w'=>e = .returned (.int .i64 b.tol)/\Below w.heap.size w w':=by
 obtain ⟨x,hx⟩:∃ x:Int,x=if bok b.one.l b.one.a b.one.f=true then (64-b.one.a)%64 else 0:=⟨_,rfl⟩
 have hn:∀ w,Calls Tryz.prog 186 #[.agg #[.int .i64 b.one.l,.int .i64 b.one.a,.bool b.one.g,.int .i64 b.one.f]] w λe w'=>(∃ y,e = .returned (.tuple #[.int .i64 x,.int .i64 y]))/\Below w.heap.size w w':=λw=>by
  rw [hx]
  by_cases hk:bok b.one.l b.one.a b.one.f=true
  ·rw [if_pos hk]
   refine (zin _ _ _ _ w ((zax _ _ _).1 hk)).mono ?_
   rintro e w1 ⟨rfl,hb⟩
   exact ⟨⟨_,rfl⟩,hb⟩
  ·rw [if_neg hk]
   refine (zjN _ _ _ _ w (λy=>hk ((zax _ _ _).2 y))).mono ?_
   rintro e w1 ⟨rfl,hb⟩
   exact ⟨⟨_,rfl⟩,hb⟩
 have hb0:0<=x/\x<=64:=by rw [hx];split <;> omega
 have ht:1+x=b.tol:=by rw [hx];exact zqX b
 have hwr:IntKind.i64.wrap (1+x)=1+x:=by rw [IntKind.wrap_i64];omega
 rw [<- ht]
 have H:=hid h
 have HN:=hid hn
 obtain ⟨b1,hb1⟩:∃ b1,b1=b.one:=⟨_,rfl⟩
 have hr:∀ w,Calls Tryz.prog 66 #[.agg #[.int .i64 b.l,.int .i64 b.a,.bool b.g,.int .i64 b.f],.int .i64 1] w λe w'=>∃ x,e = .returned (.tuple #[.agg #[.int .i64 b1.l,.int .i64 b1.a,.bool b1.g,.int .i64 b1.f],.int .i64 x])/\Below w.heap.size w w':=λw=>by
  rw [hb1];exact Lk.run1 b w H.out
 rw [<- hb1] at HN
 have HR:=hid hr
 clear h hn hx ht hr hb1
 go_enter Tryz.func97,Tryz.ntmps97
 go_wp2_with (first
  | (go_at_call 66;refine (HR.out _).mono ?_;rintro e w1 ⟨x1,rfl,hb1⟩;have HB1:=hid hb1;have hz1:w.heap.size<w1.heap.size:=Nat.lt_of_lt_of_le (by simp) hb1.size;clear hb1)
  | (go_at_call 186;refine (HN.out _).mono ?_;rintro e w2 ⟨⟨x2,rfl⟩,hb2⟩;have HB2:=hid hb2;clear hb2))
 go_ret
 exact ⟨rfl,stp (stA (stp (stA (st0 w) _) HB1.out) _) HB2.out⟩
theorem Ct.sleeps (r c y:Int) (hy:y=3 \/ y=5) (hr:0<=r/\r<=1000000) (hc:0<=c/\c<=1000000) (w:World):Calls Tryz.prog 103 #[.int .i64 r,.int .i64 c,.int .i64 y] w λe w'=>e = .returned (.int .i64 (slept r c y))/\w=w':=by
 by_cases h:c<=r
 ·rw [zcZ h]
  go_enter Tryz.func103,Tryz.ntmps103
  go_wp2
  go_ret
  exact ⟨rfl,rfl⟩
 ·have hlt:r<c:=by omega
  obtain ⟨d,hd⟩:∃ d,d=(c-r+y-1)/y:=⟨_,rfl⟩
  have hdb:0<=d/\d<=1000000:=by
   rw [hd]
   rcases hy with rfl|rfl <;> omega
  have e0:slept r c y=r+d*y:=by unfold slept;rw [if_neg h,hd]
  rw [e0]
  have e1:Int.tdiv (c-r+y-1) y=d:=by
   rw [hd]
   exact Int.tdiv_eq_ediv_of_nonneg (by rcases hy with rfl|rfl <;> omega)
  have w1:IntKind.i64.wrap (c-r)=c-r:=by rw [IntKind.wrap_i64];omega
  have w2:IntKind.i64.wrap (c-r+y)=c-r+y:=by rw [IntKind.wrap_i64];rcases hy with rfl|rfl <;> omega
  have w3:IntKind.i64.wrap (c-r+y-1)=c-r+y-1:=by rw [IntKind.wrap_i64];rcases hy with rfl|rfl <;> omega
  have w4:IntKind.i64.wrap d=d:=by rw [IntKind.wrap_i64];omega
  have w5:IntKind.i64.wrap (d*y)=d*y:=by rw [IntKind.wrap_i64];rcases hy with rfl|rfl <;> omega
  have w6:IntKind.i64.wrap (r+d*y)=r+d*y:=by rw [IntKind.wrap_i64];rcases hy with rfl|rfl <;> omega
  have hy0:(y == 0)=false:=by rcases hy with rfl|rfl <;> rfl
  clear hd e0 h
  go_enter Tryz.func103,Tryz.ntmps103
  go_wp2
  go_ret
  exact ⟨rfl,rfl⟩
section
variable {F : Fx} {N c : Nat} {vco vln vsm : Value} {w w1 : World} {k : Cs} {M : Mach} {tk : Tk}
theorem Bd.tmR (h:Bd F w M tk):w.rangeAt F.g 41 [.int .u16 M.t.r,.int .u16 M.t.c,.bool M.t.on,.bool M.t.g]:=λi v hi=>by
 refine h.at (41+i) v ?_
 have hl:=(List.getElem?_eq_some_iff.1 hi).1
 have hc:i=0 \/ i=1 \/ i=2 \/ i=3:=by simp at hl;omega
 rcases hc with rfl|rfl|rfl|rfl <;> exact hi
theorem Bd.bmR (h:Bd F w M tk):w.rangeAt F.g 61 [.int .i64 M.b.l,.int .i64 M.b.a,.bool M.b.g,.int .i64 M.b.f]:=λi v hi=>by
 refine h.at (61+i) v ?_
 have hl:=(List.getElem?_eq_some_iff.1 hi).1
 have hc:i=0 \/ i=1 \/ i=2 \/ i=3:=by simp at hl;omega
 rcases hc with rfl|rfl|rfl|rfl <;> exact hi
theorem Bd.sm {tg bg:Bool} (h:Bd F w M tk) (e1:M.t.g=tg) (e2:M.b.g=bg):w.rangeAt F.g 0 (cpuL M.main)/\w.cell? ⟨F.g,44,none⟩=some (.bool tg)/\w.cell? ⟨F.g,63,none⟩=some (.bool bg):=by
 subst e1 e2
 exact ⟨h.mainR,h.at 44 _ rfl,h.at 63 _ rfl⟩
theorem Bd.st4 (h:Bd F w M tk):w.cell? ⟨F.g,72,none⟩=some (.int .i64 M.clock)/\w.rangeAt F.g 41 [.int .u16 M.t.r,.int .u16 M.t.c,.bool M.t.on,.bool M.t.g]:=⟨h.at 72 _ rfl,h.tmR⟩
theorem Bd.sl (h:Bd F w M tk):w.cell? ⟨F.g,72,none⟩=some (.int .i64 M.clock)/\w.rangeAt F.g 61 [.int .i64 M.b.l,.int .i64 M.b.a,.bool M.b.g,.int .i64 M.b.f]:=⟨h.at 72 _ rfl,h.bmR⟩
theorem Bd.sa {x:Bool} (h:Bd F w M tk) (e:M.held=x):w.cell? ⟨F.g,68,none⟩=some (.bool x)/\w.rangeAt F.g 15 (cpuL M.aux)/\w.cell? ⟨F.g,71,none⟩=some (.bool M.rung):=by
 subst e
 exact ⟨h.at 68 _ rfl,h.auxR,h.at 71 _ rfl⟩
theorem Ct.nextMain (h:Bd F w M tk):Calls Tryz.prog 99 #[pt F.g 0] w λe w'=>e = .returned (.int .i64 M.nxM)/\Below w.heap.size w w':=by
 obtain ⟨tg,htg⟩:∃ b,M.t.g=b:=⟨_,rfl⟩
 obtain ⟨bg,hbg⟩:∃ b,M.b.g=b:=⟨_,rfl⟩
 obtain ⟨mm,hmm⟩:∃ b,M.main.May=b:=⟨_,rfl⟩
 obtain ⟨on,hon⟩:∃ b,M.t.on=b:=⟨_,rfl⟩
 obtain ⟨z,hz⟩:∃ b,M.sleeps=b:=⟨_,rfl⟩
 have hA:∀ W,Calls Tryz.prog 187 #[.agg (cpuL M.main).toArray,.bool (tg || bg)] W λe w'=>e = .returned (.bool z)/\Below W.heap.size W w':=λW=>by
  rw [<- hz,<- htg,<- hbg];exact Ct.asleep M.main _ W
 have hX:M.nxM=if z=false then M.mready else if (mm && on)=true then M.clock+(M.t.c+1) else never:=by unfold Mach.nxM;rw [hz,hmm,hon]
 have hT:on=true->∀ W,Calls Tryz.prog 188 #[.agg #[.int .u16 M.t.r,.int .u16 M.t.c,.bool M.t.on,.bool M.t.g]] W λe w'=>e = .returned (.int .i64 (M.t.c+1))/\Below W.heap.size W w':=λe0 W=>by
  refine (ze5 M.t.r M.t.c M.t.on M.t.g W h.fit.tc).mono ?_
  rintro e w1 ⟨rfl,hb⟩
  rw [hon,e0]
  exact ⟨rfl,hb⟩
 have hwr:IntKind.i64.wrap (M.clock+(M.t.c+1))=M.clock+(M.t.c+1):=by
  have:=h.fit.clock;have h2:0<=M.t.c/\M.t.c<=65535:=h.fit.tc
  rw [IntKind.wrap_i64];omega
 rw [hX]
 have H:=hid h
 have HTG:=hid htg
 have HBG:=hid hbg
 have HMM:=hid hmm
 have HON:=hid hon
 have HT0:=hid hT
 have HWR:=hid hwr
 clear h htg hbg hmm hon hz hX hT hwr
 have z0:=H.out.bx.z
 go_enter Tryz.func99,Tryz.ntmps99
 go_upto_region 1 with fail
 cases tg
 case' false =>
  simp only [Bool.false_or] at hA
  have HA:=hid hA
  clear hA
  refine wp_region_held_drew (S:=λw'=>w'.rangeAt F.g 0 (cpuL M.main)/\w'.cell? ⟨F.g,44,none⟩=some (.bool false)/\w'.cell? ⟨F.g,63,none⟩=some (.bool bg)) (by kernel_rfl) (H.out.drew.sm HTG.out HBG.out) ?_
  intro hS
  refine tqH 0 ⟨some 4,_,_,_,_,none⟩ hS ?_
  simp only [Act.put,xA,xB,xC]
  refine tqH 1 ⟨some 5,_,_,_,_,none⟩ hS ?_
  simp only [Act.put,xA,xB,xC]
  refine tqH 2 ⟨some 6,_,_,_,_,none⟩ hS ?_
  simp only [Act.put,xA,xB,xC]
  refine wpAnyH_take (i:=3) (oi:=⟨some 7,_,_,_,_,none⟩) (v:=.agg (cpuL M.main).toArray) rfl (by kernel_rfl) (by kernel_rfl) (by kernel_rfl) (λ_ _ _ h=>h) (Or.inl ⟨by rfl,λw' hSw=>zaf 25 _ rfl F.g 0 rfl (cpuL M.main) _ hSw.1 Tryz.underlying25 rfl zbf⟩) hS ?_
  simp only [Act.put,xA,xB,xC]
  refine tqH 4 ⟨some 8,_,_,_,_,none⟩ hS ?_
  simp only [Act.put,xA,xB,xC]
  refine tqH 5 ⟨some 9,_,_,_,_,none⟩ hS ?_
  simp only [Act.put,xA,xB,xC]
  refine tqH 6 ⟨some 10,_,_,_,_,none⟩ hS ?_
  simp only [Act.put,xA,xB,xC]
  refine tqH 7 ⟨some 11,_,_,_,_,none⟩ hS ?_
  simp only [Act.put,xA,xB,xC]
  refine wpAnyH_take (i:=8) (oi:=⟨some 12,_,_,_,_,none⟩) (v:=.bool false) rfl (by kernel_rfl) (by kernel_rfl) (by kernel_rfl) (λ_ _ _ h=>h) (Or.inl ⟨by rfl,?_⟩) hS ?_
  ·intro w' hSw
   have hcc:=hSw.2.1
   have hcz:=World.block_lt_of_cell? w' _ hcc
   go_simp
   try (with_reducible rfl)
  simp only [Act.put,xA,xB,xC]
  refine tqH 9 ⟨some 13,_,_,_,_,none⟩ hS ?_
  simp only [Act.put,xA,xB,xC]
  refine tqH 10 ⟨some 14,_,_,_,_,some (9,false)⟩ hS ?_
  simp only [Act.put,xA,xB,xC]
  refine tqH 11 ⟨some 15,_,_,_,_,some (9,false)⟩ hS ?_
  simp only [Act.put,xA,xB,xC]
  refine tqH 12 ⟨some 16,_,_,_,_,some (9,false)⟩ hS ?_
  simp only [Act.put,xA,xB,xC]
  refine tqH 13 ⟨some 17,_,_,_,_,some (9,false)⟩ hS ?_
  simp only [Act.put,xA,xB,xC]
  refine wpAnyH_take (i:=14) (oi:=⟨some 18,_,_,_,_,some (9,false)⟩) (v:=.bool bg) rfl (by kernel_rfl) (by kernel_rfl) (by kernel_rfl) (λ_ _ _ h=>h) (Or.inl ⟨by rfl,?_⟩) hS ?_
  ·intro w' hSw
   have hcc:=hSw.2.2
   have hcz:=World.block_lt_of_cell? w' _ hcc
   go_simp
   try (with_reducible rfl)
  simp only [Act.put,xA,xB,xC]
  refine tqH 15 ⟨some 19,_,_,_,_,none⟩ hS ?_
  simp only [Act.put,xA,xB,xC]
  refine wpAnyH_ready (rs:=[16]) (by kernel_rfl) (by simp) ?_
  refine AllReadyH.cons (o:=⟨some 20,_,_,_,_,none⟩) rfl (λK hK=>?_) AllReadyH.nil
  go_simp
  go_at_call 187
  refine (HA.out _).mono ?_
  rintro e w1 ⟨rfl,hb1⟩
  have HX1:=hid (H.out.drew.kept hb1)
  have HB1:=hid (stp (st0 w).drew hb1)
  clear hb1
  try go_wp2_with fail
  refine hK.out _ _ (HX1.out.sm HTG.out HBG.out) (λ_=>?_)
  clear hK K hS
  have hS:=HX1.out.sm HTG.out HBG.out
  try simp only [Act.put,xA,xB,xC]
  refine tqH 17 ⟨some 21,_,_,_,_,none⟩ hS ?_
  simp only [Act.put,xA,xB,xC]
  refine tqH 18 ⟨some 3,_,_,_,_,none⟩ hS ?_
  simp only [Act.put,xA,xB,xC]
  refine wpAnyH_done (by kernel_rfl) ?_ _
 case' true =>
  simp only [Bool.true_or] at hA
  have HA:=hid hA
  clear hA
  refine wp_region_held_drew (S:=λw'=>w'.rangeAt F.g 0 (cpuL M.main)/\w'.cell? ⟨F.g,44,none⟩=some (.bool true)/\w'.cell? ⟨F.g,63,none⟩=some (.bool bg)) (by kernel_rfl) (H.out.drew.sm HTG.out HBG.out) ?_
  intro hS
  refine tqH 0 ⟨some 4,_,_,_,_,none⟩ hS ?_
  simp only [Act.put,xA,xB,xC]
  refine tqH 1 ⟨some 5,_,_,_,_,none⟩ hS ?_
  simp only [Act.put,xA,xB,xC]
  refine tqH 2 ⟨some 6,_,_,_,_,none⟩ hS ?_
  simp only [Act.put,xA,xB,xC]
  refine wpAnyH_take (i:=3) (oi:=⟨some 7,_,_,_,_,none⟩) (v:=.agg (cpuL M.main).toArray) rfl (by kernel_rfl) (by kernel_rfl) (by kernel_rfl) (λ_ _ _ h=>h) (Or.inl ⟨by rfl,λw' hSw=>zaf 25 _ rfl F.g 0 rfl (cpuL M.main) _ hSw.1 Tryz.underlying25 rfl zbf⟩) hS ?_
  simp only [Act.put,xA,xB,xC]
  refine tqH 4 ⟨some 8,_,_,_,_,none⟩ hS ?_
  simp only [Act.put,xA,xB,xC]
  refine tqH 5 ⟨some 9,_,_,_,_,none⟩ hS ?_
  simp only [Act.put,xA,xB,xC]
  refine tqH 6 ⟨some 10,_,_,_,_,none⟩ hS ?_
  simp only [Act.put,xA,xB,xC]
  refine tqH 7 ⟨some 11,_,_,_,_,none⟩ hS ?_
  simp only [Act.put,xA,xB,xC]
  refine wpAnyH_take (i:=8) (oi:=⟨some 12,_,_,_,_,none⟩) (v:=.bool true) rfl (by kernel_rfl) (by kernel_rfl) (by kernel_rfl) (λ_ _ _ h=>h) (Or.inl ⟨by rfl,?_⟩) hS ?_
  ·intro w' hSw
   have hcc:=hSw.2.1
   have hcz:=World.block_lt_of_cell? w' _ hcc
   go_simp
   try (with_reducible rfl)
  simp only [Act.put,xA,xB,xC]
  refine tqH 9 ⟨some 13,_,_,_,_,none⟩ hS ?_
  simp only [Act.put,xA,xB,xC]
  refine wpAnyH_take (i:=10) (oi:=⟨some 14,_,_,_,_,some (9,false)⟩) (v:=undef) rfl (by kernel_rfl) (by kernel_rfl) (by kernel_rfl) (λ_ _ _ h=>h) (Or.inr ⟨by rfl,rfl⟩) hS ?_
  simp only [Act.put,xA,xB,xC]
  refine wpAnyH_take (i:=11) (oi:=⟨some 15,_,_,_,_,some (9,false)⟩) (v:=undef) rfl (by kernel_rfl) (by kernel_rfl) (by kernel_rfl) (λ_ _ _ h=>h) (Or.inr ⟨by rfl,rfl⟩) hS ?_
  simp only [Act.put,xA,xB,xC]
  refine wpAnyH_take (i:=12) (oi:=⟨some 16,_,_,_,_,some (9,false)⟩) (v:=undef) rfl (by kernel_rfl) (by kernel_rfl) (by kernel_rfl) (λ_ _ _ h=>h) (Or.inr ⟨by rfl,rfl⟩) hS ?_
  simp only [Act.put,xA,xB,xC]
  refine wpAnyH_take (i:=13) (oi:=⟨some 17,_,_,_,_,some (9,false)⟩) (v:=undef) rfl (by kernel_rfl) (by kernel_rfl) (by kernel_rfl) (λ_ _ _ h=>h) (Or.inr ⟨by rfl,rfl⟩) hS ?_
  simp only [Act.put,xA,xB,xC]
  refine wpAnyH_take (i:=14) (oi:=⟨some 18,_,_,_,_,some (9,false)⟩) (v:=undef) rfl (by kernel_rfl) (by kernel_rfl) (by kernel_rfl) (λ_ _ _ h=>h) (Or.inr ⟨by rfl,rfl⟩) hS ?_
  simp only [Act.put,xA,xB,xC]
  refine tqH 15 ⟨some 19,_,_,_,_,none⟩ hS ?_
  simp only [Act.put,xA,xB,xC]
  refine wpAnyH_ready (rs:=[16]) (by kernel_rfl) (by simp) ?_
  refine AllReadyH.cons (o:=⟨some 20,_,_,_,_,none⟩) rfl (λK hK=>?_) AllReadyH.nil
  go_simp
  go_at_call 187
  refine (HA.out _).mono ?_
  rintro e w1 ⟨rfl,hb1⟩
  have HX1:=hid (H.out.drew.kept hb1)
  have HB1:=hid (stp (st0 w).drew hb1)
  clear hb1
  try go_wp2_with fail
  refine hK.out _ _ (HX1.out.sm HTG.out HBG.out) (λ_=>?_)
  clear hK K hS
  have hS:=HX1.out.sm HTG.out HBG.out
  try simp only [Act.put,xA,xB,xC]
  refine tqH 17 ⟨some 21,_,_,_,_,none⟩ hS ?_
  simp only [Act.put,xA,xB,xC]
  refine tqH 18 ⟨some 3,_,_,_,_,none⟩ hS ?_
  simp only [Act.put,xA,xB,xC]
  refine wpAnyH_done (by kernel_rfl) ?_ _
 all_goals
  clear hS
  have zz:=HX1.out.bx.z
  cases z
  ·have m73:=HX1.out.at 73 (.int .i64 M.mready) rfl
   go_wp2
   go_ret
   exact ⟨rfl,HB1.out⟩
  ·cases mm
   ·have m13:w1.cell? ⟨F.g,13,none⟩=some (.bool false):=by rw [<- HMM.out];exact HX1.out.at 13 (.bool M.main.May) rfl
    go_wp2
    go_ret
    exact ⟨rfl,HB1.out⟩
   ·have m13:w1.cell? ⟨F.g,13,none⟩=some (.bool true):=by rw [<- HMM.out];exact HX1.out.at 13 (.bool M.main.May) rfl
    cases on
    ·have m43:w1.cell? ⟨F.g,43,none⟩=some (.bool false):=by rw [<- HON.out];exact HX1.out.at 43 (.bool M.t.on) rfl
     go_wp2
     go_ret
     exact ⟨rfl,HB1.out⟩
    ·have m43:w1.cell? ⟨F.g,43,none⟩=some (.bool true):=by rw [<- HON.out];exact HX1.out.at 43 (.bool M.t.on) rfl
     have HT:=hid (HT0.out rfl)
     go_upto_region 4 with fail
     have hwr:=HWR.out
     clear m13 m43
     refine wp_region_held_drew (S:=λw'=>w'.cell? ⟨F.g,72,none⟩=some (.int .i64 M.clock)/\w'.rangeAt F.g 41 [.int .u16 M.t.r,.int .u16 M.t.c,.bool M.t.on,.bool M.t.g]) (by kernel_rfl) (HX1.out.drew.st4) ?_
     intro hS
     refine tqH 0 ⟨some 39,_,_,_,_,none⟩ hS ?_
     simp only [Act.put,xA,xB,xC]
     refine tqH 1 ⟨some 40,_,_,_,_,none⟩ hS ?_
     simp only [Act.put,xA,xB,xC]
     refine tqH 2 ⟨some 41,_,_,_,_,none⟩ hS ?_
     simp only [Act.put,xA,xB,xC]
     refine wpAnyH_take (i:=3) (oi:=⟨some 42,_,_,_,_,none⟩) (v:=.int .i64 M.clock) rfl (by kernel_rfl) (by kernel_rfl) (by kernel_rfl) (λ_ _ _ h=>h) (Or.inl ⟨by rfl,?_⟩) hS ?_
     ·intro w' hSw
      have hcc:=hSw.1
      have hcz:=World.block_lt_of_cell? w' _ hcc
      go_simp
      try (with_reducible rfl)
     simp only [Act.put,xA,xB,xC]
     refine tqH 4 ⟨some 43,_,_,_,_,none⟩ hS ?_
     simp only [Act.put,xA,xB,xC]
     refine tqH 5 ⟨some 44,_,_,_,_,none⟩ hS ?_
     simp only [Act.put,xA,xB,xC]
     refine tqH 6 ⟨some 45,_,_,_,_,none⟩ hS ?_
     simp only [Act.put,xA,xB,xC]
     refine wpAnyH_take (i:=7) (oi:=⟨some 46,_,_,_,_,none⟩) (v:=.agg ([.int .u16 M.t.r,.int .u16 M.t.c,.bool M.t.on,.bool M.t.g]).toArray) rfl (by kernel_rfl) (by kernel_rfl) (by kernel_rfl) (λ_ _ _ h=>h) (Or.inl ⟨by rfl,λw' hSw=>zaf 31 _ rfl F.g 41 rfl ([.int .u16 M.t.r,.int .u16 M.t.c,.bool M.t.on,.bool M.t.g]) _ hSw.2 Tryz.underlying31 rfl zcd⟩) hS ?_
     simp only [Act.put,xA,xB,xC]
     refine wpAnyH_ready (rs:=[8]) (by kernel_rfl) (by simp) ?_
     refine AllReadyH.cons (o:=⟨some 47,_,_,_,_,none⟩) rfl (λK hK=>?_) AllReadyH.nil
     go_simp
     go_at_call 188
     refine (HT.out _).mono ?_
     rintro e w2 ⟨rfl,hb2⟩
     have HX2:=hid (HX1.out.drew.kept hb2)
     have HB2:=hid (stp HB1.out.drew hb2)
     clear hb2
     try go_wp2_with fail
     refine hK.out _ _ (HX2.out.st4) (λ_=>?_)
     clear hK K hS
     have hS:=HX2.out.st4
     try simp only [Act.put,xA,xB,xC]
     refine tqH 9 ⟨some 48,_,_,_,_,none⟩ hS ?_
     simp only [Act.put,xA,xB,xC]
     refine tqH 10 ⟨some 2,_,_,_,_,none⟩ hS ?_
     simp only [Act.put,xA,xB,xC]
     refine wpAnyH_done (by kernel_rfl) ?_ _
     go_wp2
     go_ret
     exact ⟨rfl,HB2.out⟩
theorem Ct.nextAux (h:Bd F w M tk):Calls Tryz.prog 101 #[pt F.g 0] w λe w'=>e = .returned (.int .i64 M.nxA)/\Below w.heap.size w w':=by
 obtain ⟨x,hx⟩:∃ b,M.held=b:=⟨_,rfl⟩
 obtain ⟨z,hz⟩:∃ b,M.sleepsA=b:=⟨_,rfl⟩
 have hA:∀ W,Calls Tryz.prog 187 #[.agg (cpuL M.aux).toArray,.bool M.rung] W λe w'=>e = .returned (.bool z)/\Below W.heap.size W w':=λW=>by
  rw [<- hz];exact Ct.asleep M.aux _ W
 have hX:M.nxA=if (x || z)=true then never else M.aready:=by unfold Mach.nxA;rw [hz,hx]
 rw [hX]
 have H:=hid h
 have HH:=hid hx
 have HA:=hid hA
 clear h hx hz hX hA
 have z0:=H.out.bx.z
 go_enter Tryz.func101,Tryz.ntmps101
 go_upto_region 1 with fail
 cases x
 ·skip
  refine wp_region_held_drew (S:=λw'=>w'.cell? ⟨F.g,68,none⟩=some (.bool false)/\w'.rangeAt F.g 15 (cpuL M.aux)/\w'.cell? ⟨F.g,71,none⟩=some (.bool M.rung)) (by kernel_rfl) (H.out.drew.sa HH.out) ?_
  intro hS
  refine tqH 0 ⟨some 3,_,_,_,_,none⟩ hS ?_
  simp only [Act.put,xA,xB,xC]
  refine tqH 1 ⟨some 4,_,_,_,_,none⟩ hS ?_
  simp only [Act.put,xA,xB,xC]
  refine tqH 2 ⟨some 5,_,_,_,_,none⟩ hS ?_
  simp only [Act.put,xA,xB,xC]
  refine wpAnyH_take (i:=3) (oi:=⟨some 6,_,_,_,_,none⟩) (v:=.bool false) rfl (by kernel_rfl) (by kernel_rfl) (by kernel_rfl) (λ_ _ _ h=>h) (Or.inl ⟨by rfl,?_⟩) hS ?_
  ·intro w' hSw
   have hcc:=hSw.1
   have hcz:=World.block_lt_of_cell? w' _ hcc
   go_simp
   try (with_reducible rfl)
  simp only [Act.put,xA,xB,xC]
  refine tqH 4 ⟨some 7,_,_,_,_,none⟩ hS ?_
  simp only [Act.put,xA,xB,xC]
  refine tqH 5 ⟨some 8,_,_,_,_,some (4,false)⟩ hS ?_
  simp only [Act.put,xA,xB,xC]
  refine tqH 6 ⟨some 9,_,_,_,_,some (4,false)⟩ hS ?_
  simp only [Act.put,xA,xB,xC]
  refine tqH 7 ⟨some 10,_,_,_,_,some (4,false)⟩ hS ?_
  simp only [Act.put,xA,xB,xC]
  refine wpAnyH_take (i:=8) (oi:=⟨some 11,_,_,_,_,some (4,false)⟩) (v:=.agg (cpuL M.aux).toArray) rfl (by kernel_rfl) (by kernel_rfl) (by kernel_rfl) (λ_ _ _ h=>h) (Or.inl ⟨by rfl,λw' hSw=>zaf 25 _ rfl F.g 15 rfl (cpuL M.aux) _ hSw.2.1 Tryz.underlying25 rfl zbf⟩) hS ?_
  simp only [Act.put,xA,xB,xC]
  refine tqH 9 ⟨some 12,_,_,_,_,some (4,false)⟩ hS ?_
  simp only [Act.put,xA,xB,xC]
  refine tqH 10 ⟨some 13,_,_,_,_,some (4,false)⟩ hS ?_
  simp only [Act.put,xA,xB,xC]
  refine tqH 11 ⟨some 14,_,_,_,_,some (4,false)⟩ hS ?_
  simp only [Act.put,xA,xB,xC]
  refine wpAnyH_take (i:=12) (oi:=⟨some 15,_,_,_,_,some (4,false)⟩) (v:=.bool M.rung) rfl (by kernel_rfl) (by kernel_rfl) (by kernel_rfl) (λ_ _ _ h=>h) (Or.inl ⟨by rfl,?_⟩) hS ?_
  ·intro w' hSw
   have hcc:=hSw.2.2
   have hcz:=World.block_lt_of_cell? w' _ hcc
   go_simp
   try (with_reducible rfl)
  simp only [Act.put,xA,xB,xC]
  refine wpAnyH_ready (rs:=[13]) (by kernel_rfl) (by simp) ?_
  refine AllReadyH.cons (o:=⟨some 16,_,_,_,_,some (4,false)⟩) rfl (λK hK=>?_) AllReadyH.nil
  go_simp
  go_at_call 187
  refine (HA.out _).mono ?_
  rintro e w1 ⟨rfl,hb1⟩
  have HX1:=hid (H.out.drew.kept hb1)
  have HB1:=hid (stp (st0 w).drew hb1)
  clear hb1
  try go_wp2_with fail
  refine hK.out _ _ (HX1.out.sa HH.out) (λ_=>?_)
  clear hK K hS
  have hS:=HX1.out.sa HH.out
  try simp only [Act.put,xA,xB,xC]
  refine tqH 14 ⟨some 17,_,_,_,_,none⟩ hS ?_
  simp only [Act.put,xA,xB,xC]
  refine wpAnyH_done (by kernel_rfl) ?_ _
  clear hS
  have zz:=HX1.out.bx.z
  have m74:=HX1.out.at 74 (.int .i64 M.aready) rfl
  cases z
  all_goals
   go_wp2
   go_ret
   exact ⟨rfl,HB1.out⟩
 ·skip
  refine wp_region_held_drew (S:=λw'=>w'.cell? ⟨F.g,68,none⟩=some (.bool true)/\w'.rangeAt F.g 15 (cpuL M.aux)/\w'.cell? ⟨F.g,71,none⟩=some (.bool M.rung)) (by kernel_rfl) (H.out.drew.sa HH.out) ?_
  intro hS
  refine tqH 0 ⟨some 3,_,_,_,_,none⟩ hS ?_
  simp only [Act.put,xA,xB,xC]
  refine tqH 1 ⟨some 4,_,_,_,_,none⟩ hS ?_
  simp only [Act.put,xA,xB,xC]
  refine tqH 2 ⟨some 5,_,_,_,_,none⟩ hS ?_
  simp only [Act.put,xA,xB,xC]
  refine wpAnyH_take (i:=3) (oi:=⟨some 6,_,_,_,_,none⟩) (v:=.bool true) rfl (by kernel_rfl) (by kernel_rfl) (by kernel_rfl) (λ_ _ _ h=>h) (Or.inl ⟨by rfl,?_⟩) hS ?_
  ·intro w' hSw
   have hcc:=hSw.1
   have hcz:=World.block_lt_of_cell? w' _ hcc
   go_simp
   try (with_reducible rfl)
  simp only [Act.put,xA,xB,xC]
  refine tqH 4 ⟨some 7,_,_,_,_,none⟩ hS ?_
  simp only [Act.put,xA,xB,xC]
  refine wpAnyH_take (i:=5) (oi:=⟨some 8,_,_,_,_,some (4,false)⟩) (v:=undef) rfl (by kernel_rfl) (by kernel_rfl) (by kernel_rfl) (λ_ _ _ h=>h) (Or.inr ⟨by rfl,rfl⟩) hS ?_
  simp only [Act.put,xA,xB,xC]
  refine wpAnyH_take (i:=6) (oi:=⟨some 9,_,_,_,_,some (4,false)⟩) (v:=undef) rfl (by kernel_rfl) (by kernel_rfl) (by kernel_rfl) (λ_ _ _ h=>h) (Or.inr ⟨by rfl,rfl⟩) hS ?_
  simp only [Act.put,xA,xB,xC]
  refine wpAnyH_take (i:=7) (oi:=⟨some 10,_,_,_,_,some (4,false)⟩) (v:=undef) rfl (by kernel_rfl) (by kernel_rfl) (by kernel_rfl) (λ_ _ _ h=>h) (Or.inr ⟨by rfl,rfl⟩) hS ?_
  simp only [Act.put,xA,xB,xC]
  refine wpAnyH_take (i:=8) (oi:=⟨some 11,_,_,_,_,some (4,false)⟩) (v:=undef) rfl (by kernel_rfl) (by kernel_rfl) (by kernel_rfl) (λ_ _ _ h=>h) (Or.inr ⟨by rfl,rfl⟩) hS ?_
  simp only [Act.put,xA,xB,xC]
  refine wpAnyH_take (i:=9) (oi:=⟨some 12,_,_,_,_,some (4,false)⟩) (v:=undef) rfl (by kernel_rfl) (by kernel_rfl) (by kernel_rfl) (λ_ _ _ h=>h) (Or.inr ⟨by rfl,rfl⟩) hS ?_
  simp only [Act.put,xA,xB,xC]
  refine wpAnyH_take (i:=10) (oi:=⟨some 13,_,_,_,_,some (4,false)⟩) (v:=undef) rfl (by kernel_rfl) (by kernel_rfl) (by kernel_rfl) (λ_ _ _ h=>h) (Or.inr ⟨by rfl,rfl⟩) hS ?_
  simp only [Act.put,xA,xB,xC]
  refine wpAnyH_take (i:=11) (oi:=⟨some 14,_,_,_,_,some (4,false)⟩) (v:=undef) rfl (by kernel_rfl) (by kernel_rfl) (by kernel_rfl) (λ_ _ _ h=>h) (Or.inr ⟨by rfl,rfl⟩) hS ?_
  simp only [Act.put,xA,xB,xC]
  refine wpAnyH_take (i:=12) (oi:=⟨some 15,_,_,_,_,some (4,false)⟩) (v:=undef) rfl (by kernel_rfl) (by kernel_rfl) (by kernel_rfl) (λ_ _ _ h=>h) (Or.inr ⟨by rfl,rfl⟩) hS ?_
  simp only [Act.put,xA,xB,xC]
  refine wpAnyH_take (i:=13) (oi:=⟨some 16,_,_,_,_,some (4,false)⟩) (v:=undef) rfl (by kernel_rfl) (by kernel_rfl) (by kernel_rfl) (λ_ _ _ h=>h) (Or.inr ⟨by rfl,rfl⟩) hS ?_
  simp only [Act.put,xA,xB,xC]
  refine tqH 14 ⟨some 17,_,_,_,_,none⟩ hS ?_
  simp only [Act.put,xA,xB,xC]
  refine wpAnyH_done (by kernel_rfl) ?_ _
  go_wp2
  go_ret
  exact ⟨rfl,(st0 w).drew⟩
theorem Ct.ev1 {b:Nat} (h:CI F N c vco vln vsm w k) (hb:w.cell? ⟨b,0,none⟩=some (pt c 0)):Calls Tryz.prog 94 #[pt b 0] w λe w'=>e = .returned (.int .i64 k.nxP)/\Below w.heap.size w w':=by
 have hbz:=World.block_lt_of_cell? w _ hb
 have k1:=h.cb.bx.at 1 vco rfl
 have kz:=h.cb.z
 have HCO:=hid h.co
 clear h
 go_enter Tryz.func94,Tryz.ntmps94
 go_wp2_with (go_at_call 95;refine (Ct.nextPress k HCO.out).mono ?_;rintro e w1 ⟨rfl,rfl⟩)
 go_ret
 exact ⟨rfl,st0 w⟩
theorem Ct.ev2 {b:Nat} (h:Bd F w M tk) (hb:w.cell? ⟨b,0,none⟩=some (pt F.g 0)):Calls Tryz.prog 96 #[pt b 0] w λe w'=>e = .returned (.int .i64 (M.clock+M.b.tol))/\Below w.heap.size w w':=by
 have hbz:=World.block_lt_of_cell? w _ hb
 have z0:=h.bx.z
 have hwr:IntKind.i64.wrap (M.clock+M.b.tol)=M.clock+M.b.tol:=by
  have:=h.fit.clock;have:=zpJ h.fit.b
  rw [IntKind.wrap_i64];omega
 have H:=hid h
 have HC:=hid hb
 clear h hb
 go_enter Tryz.func96,Tryz.ntmps96
 go_upto_region 1 with fail
 refine wp_region_held_drew (S:=λw'=>w'.cell? ⟨b,0,none⟩=some (pt F.g 0)/\w'.cell? ⟨F.g,72,none⟩=some (.int .i64 M.clock)/\w'.rangeAt F.g 61 [.int .i64 M.b.l,.int .i64 M.b.a,.bool M.b.g,.int .i64 M.b.f]) (by kernel_rfl) (⟨HC.out,H.out.drew.sl⟩) ?_
 intro hS
 refine wpAnyH_take (i:=0) (oi:=⟨some 2,_,_,_,_,none⟩) (v:=pt F.g 0) rfl (by kernel_rfl) (by kernel_rfl) (by kernel_rfl) (λ_ _ _ h=>h) (Or.inl ⟨by rfl,?_⟩) hS ?_
 ·intro w' hSw
  have hcc:=hSw.1
  have hcz:=World.block_lt_of_cell? w' _ hcc
  go_simp
  try (with_reducible rfl)
 simp only [Act.put,xA,xB,xC]
 refine tqH 1 ⟨some 3,_,_,_,_,none⟩ hS ?_
 simp only [Act.put,xA,xB,xC]
 refine tqH 2 ⟨some 4,_,_,_,_,none⟩ hS ?_
 simp only [Act.put,xA,xB,xC]
 refine wpAnyH_take (i:=3) (oi:=⟨some 5,_,_,_,_,none⟩) (v:=.int .i64 M.clock) rfl (by kernel_rfl) (by kernel_rfl) (by kernel_rfl) (λ_ _ _ h=>h) (Or.inl ⟨by rfl,?_⟩) hS ?_
 ·intro w' hSw
  have hcc:=hSw.2.1
  have hcz:=World.block_lt_of_cell? w' _ hcc
  go_simp
  try (with_reducible rfl)
 simp only [Act.put,xA,xB,xC]
 refine wpAnyH_take (i:=4) (oi:=⟨some 6,_,_,_,_,none⟩) (v:=pt F.g 0) rfl (by kernel_rfl) (by kernel_rfl) (by kernel_rfl) (λ_ _ _ h=>h) (Or.inl ⟨by rfl,?_⟩) hS ?_
 ·intro w' hSw
  have hcc:=hSw.1
  have hcz:=World.block_lt_of_cell? w' _ hcc
  go_simp
  try (with_reducible rfl)
 simp only [Act.put,xA,xB,xC]
 refine tqH 5 ⟨some 7,_,_,_,_,none⟩ hS ?_
 simp only [Act.put,xA,xB,xC]
 refine tqH 6 ⟨some 8,_,_,_,_,none⟩ hS ?_
 simp only [Act.put,xA,xB,xC]
 refine wpAnyH_take (i:=7) (oi:=⟨some 9,_,_,_,_,none⟩) (v:=.agg ([.int .i64 M.b.l,.int .i64 M.b.a,.bool M.b.g,.int .i64 M.b.f]).toArray) rfl (by kernel_rfl) (by kernel_rfl) (by kernel_rfl) (λ_ _ _ h=>h) (Or.inl ⟨by rfl,λw' hSw=>zaf 38 _ rfl F.g 61 rfl ([.int .i64 M.b.l,.int .i64 M.b.a,.bool M.b.g,.int .i64 M.b.f]) _ hSw.2.2 Tryz.underlying38 rfl zcL⟩) hS ?_
 simp only [Act.put,xA,xB,xC]
 refine wpAnyH_ready (rs:=[8]) (by kernel_rfl) (by simp) ?_
 refine AllReadyH.cons (o:=⟨some 10,_,_,_,_,none⟩) rfl (λK hK=>?_) AllReadyH.nil
 go_simp
 go_at_call 97
 refine (Ct.toLine M.b _ H.out.fit.b).mono ?_
 rintro e w1 ⟨rfl,hb1⟩
 have HX1:=hid (H.out.drew.kept hb1)
 have HB1:=hid (stp (st0 w).drew hb1)
 have HC1:=hid ((hb1.cell (p:=⟨b,0,none⟩) (World.block_lt_of_cell? w _ HC.out)).trans HC.out)
 clear hb1
 try go_wp2_with fail
 refine hK.out _ _ (And.intro HC1.out HX1.out.sl) (λ_=>?_)
 clear hK K hS
 have hS:=And.intro HC1.out HX1.out.sl
 try simp only [Act.put,xA,xB,xC]
 refine tqH 9 ⟨some 11,_,_,_,_,none⟩ hS ?_
 simp only [Act.put,xA,xB,xC]
 refine tqH 10 ⟨some 1,_,_,_,_,none⟩ hS ?_
 simp only [Act.put,xA,xB,xC]
 refine wpAnyH_done (by kernel_rfl) ?_ _
 go_wp2
 go_ret
 exact ⟨rfl,HB1.out⟩
theorem Ct.ev3 {b:Nat} (h:Bd F w M tk) (hb:w.cell? ⟨b,0,none⟩=some (pt F.g 0)):Calls Tryz.prog 98 #[pt b 0] w λe w'=>e = .returned (.int .i64 M.nxM)/\Below w.heap.size w w':=by
 have hbz:=World.block_lt_of_cell? w _ hb
 have H:=hid h
 clear h
 go_enter Tryz.func98,Tryz.ntmps98
 go_wp2_with (go_at_call 99;refine (Ct.nextMain H.out).mono ?_;rintro e w1 ⟨rfl,hb1⟩)
 go_ret
 exact ⟨rfl,hb1⟩
theorem Ct.ev4 {b:Nat} (h:Bd F w M tk) (hb:w.cell? ⟨b,0,none⟩=some (pt F.g 0)):Calls Tryz.prog 100 #[pt b 0] w λe w'=>e = .returned (.int .i64 M.nxA)/\Below w.heap.size w w':=by
 have hbz:=World.block_lt_of_cell? w _ hb
 have H:=hid h
 clear h
 go_enter Tryz.func100,Tryz.ntmps100
 go_wp2_with (go_at_call 101;refine (Ct.nextAux H.out).mono ?_;rintro e w1 ⟨rfl,hb1⟩)
 go_ret
 exact ⟨rfl,hb1⟩
end
end Go.Proofs.YtbennamieealbaaGreatDoor
