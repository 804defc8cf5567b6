/-
  Parts of a proof, joined.
-/
import Derived.Test.YtbhpfkjfijdmaaaGreatDoorZw28
import Derived.Test.YtbhpfkjfijdmaaaGreatDoorZw33
import Derived.Test.YtbhpfkjfijdmaaaGreatDoorZw31
namespace Go.Proofs.YtbhpfkjfijdmaaaGreatDoor
open Go.ChangeShapes Go.WideShapes Go.ChangeAt Go.RowKit
set_option linter.unusedVariables false
set_option maxRecDepth 100000
set_option maxHeartbeats 6400000
section
variable {F : Fx} {W : World} {M M' : Mach} {tk : Tk}
theorem Lk.run1 (b:Bem) (w:World) (h:BOr b.l b.a b.f):Calls Tryz.prog 56 #[.agg #[.int .i64 b.l,.int .i64 b.a,.bool b.g,.int .i64 b.f],.int .i64 1] w fun e w'=>∃ x,e = .returned (.tuple #[.agg #[.int .i64 b.one.l,.int .i64 b.one.a,.bool b.one.g,.int .i64 b.one.f],.int .i64 x])/\Below w.heap.size w w':=by
 unfold Bem.one
 by_cases hk:bok b.l b.a b.f=true
 ·rw [if_pos hk]
  refine (Bm.run_any b.l b.a b.f 1 b.g w ((bok_iff _ _ _).1 hk) ⟨by decide,by decide⟩).mono ?_
  rintro e w1 ⟨rfl,hb⟩
  exact ⟨_,rfl,hb⟩
 ·rw [if_neg hk]
  refine (Bm.run_bad b.l b.a b.f 1 b.g w (Or.inl (fun x=>hk ((bok_iff _ _ _).2 x)))).mono ?_
  rintro e w1 ⟨rfl,hb⟩
  exact ⟨_,rfl,hb⟩
def GW (F:Fx) (W:World) (M:Mach) (tk:Tk) (Y:World):Prop:=Bd F Y M tk/\Bt F W Y
theorem Lk.goOn (h:Bd F W M tk) (hc:M.clock < 200000):Calls Tryz.prog 27 #[pt F.g 0] W fun e w'=>e = .returned (.tuple #[])/\Bd F w' M.goOn tk/\Bt F W w':=by
 have c0:=h.at 41 (.int .u16 M.t.r) rfl
 have c1:=h.at 42 (.int .u16 M.t.c) rfl
 have c2:=h.at 43 (.bool M.t.on) rfl
 have c3:=h.at 44 (.bool M.t.g) rfl
 have ff:=h.bx.f
 have hg:=h.bx.z
 have hf:=h.fit
 have hff:=goOn_fit hf hc
 have HFF:=hid hff
 have HF:=hid hf
 have H:=hid h
 have HC:=hid hc
 have hcl:=hf.clock
 obtain ⟨T1,hT1⟩:∃ T1:TM,T1=⟨M.t.r,tkC M.t.r M.t.c M.t.on,M.t.on,tkG M.t.c M.t.on M.t.g⟩:=⟨_,rfl⟩
 have HT1:=hid hT1
 clear h hf hff hc hT1
 go_enter Tryz.func27,Tryz.ntmps27
 go_upto_region 1 with (go_at_call 54;refine (Tm.tick_any _ _ _ _ _ HF.out.tc).mono ?_;rintro e w1 ⟨rfl,hb1⟩;obtain ⟨k1,f1⟩:=bcell hb1;have z2:F.g < w1.heap.size:=lt_old hg hb1 (by simp))
 refine Pl.cutW (GW F W { M with t:=T1 } tk) ⟨by rw [HT1.out];exact (H.out.kept hb1).puts (M':={ M with t:=⟨M.t.r,tkC M.t.r M.t.c M.t.on,M.t.on,tkG M.t.c M.t.on M.t.g⟩ }) (tk':=tk) 41 [.int .u16 M.t.r,.int .u16 (tkC M.t.r M.t.c M.t.on),.bool M.t.on,.bool (tkG M.t.c M.t.on M.t.g)] (by simp) rfl ⟨rfl,rfl,rfl,rfl,rfl⟩ { HF.out with main:=HF.out.main,tr:=HF.out.tr,tc:=tk_bd HF.out.tr HF.out.tc },Bt.sets H.out.nd [.int .u16 M.t.r,.int .u16 (tkC M.t.r M.t.c M.t.on),.bool M.t.on,.bool (tkG M.t.c M.t.on M.t.g)] 41 _ (Bt.kept (Bt.refl F W) H.out.big hb1)⟩ ?_
 intro Y hY
 have HY:=hid hY.1
 have HYT:=hid hY.2
 clear hY hb1 k1 f1 z2 c0 c1 c2 c3 ff hg
 obtain ⟨M1,hM1⟩:∃ M1:Mach,M1={ M with t:=T1 }:=⟨_,rfl⟩
 rw [<- hM1] at HY
 have HM1:=hid hM1
 have hs1:M1.s=M.s:=by rw [hM1]
 have hsf:M1.s.fit:=by rw [hs1];exact { HF.out.s with w:=HF.out.w }
 have HSF:=hid hsf
 clear hM1 hs1 hsf
 go_upto_region 2 with (first
  | (refine wpList_load_mid rfl 36 _ rfl F.g 45 rfl (sndL M1.s) _ HY.out.sndR Tryz.underlying36 rfl info_sound ?_)
  | (go_at_call 55;refine (samples_ok M1.s 1 _ HSF.out (by decide)).mono ?_;rintro e w2 ⟨v2,rfl,hs2,hb2⟩;have HB2:=hid hb2;have HS2:=hid (HY.out.kept hb2);clear hs2 hb2)
  | (refine wpList_store_mid rfl 36 _ _ rfl F.g 45 (sndL (M1.s.ticks 1)).toArray rfl rfl (Bx.there HS2.out.bx 45 16 (by rw [Fx.len];omega)) info_sound (all16 (M1.s.ticks 1)) ?_
     refine Pl.cutL (GW F W { M1 with s:=M1.s.ticks 1 } tk) ⟨HS2.out.puts (M':={ M1 with s:=M1.s.ticks 1 }) (tk':=tk) 45 (sndL (M1.s.ticks 1)) (by simp [sndL]) (F.putSnd M1 tk _) ⟨rfl,rfl,rfl,rfl,rfl⟩ { HS2.out.fit with main:=HS2.out.fit.main,s:=(Sd.ticks_fit HSF.out 1).took,w:=(Sd.ticks_fit HSF.out 1).w },Bt.sets HY.out.nd (sndL (M1.s.ticks 1)) 45 _ (Bt.kept HYT.out HY.out.big HB2.out)⟩ ?_
     intro Z hZ
     have HZ:=hid hZ.1
     have HZT:=hid hZ.2
     clear hZ))
 obtain ⟨M2,hM2⟩:∃ M2:Mach,M2={ M1 with s:=M1.s.ticks 1 }:=⟨_,rfl⟩
 rw [<- hM2] at HZ
 have HM2:=hid hM2
 have b0:=HZ.out.at 61 (.int .i64 M2.b.l) rfl
 have b1:=HZ.out.at 62 (.int .i64 M2.b.a) rfl
 have b2:=HZ.out.at 63 (.bool M2.b.g) rfl
 have b3:=HZ.out.at 64 (.int .i64 M2.b.f) rfl
 have ff:=HZ.out.bx.f
 have hg:=HZ.out.bx.z
 clear hM2 HY HYT HB2 HS2
 go_upto_region 3 with (go_at_call 56;refine (Lk.run1 M2.b _ HZ.out.fit.b).mono ?_;rintro e w3 ⟨x3,rfl,hb3⟩;obtain ⟨k3,f3⟩:=bcell hb3;have z3:F.g < w3.heap.size:=lt_old hg hb3 (by simp))
 refine Pl.cutW (GW F W { M2 with b:=M2.b.one } tk) ⟨(HZ.out.kept hb3).puts (M':={ M2 with b:=M2.b.one }) (tk':=tk) 61 [.int .i64 M2.b.one.l,.int .i64 M2.b.one.a,.bool M2.b.one.g,.int .i64 M2.b.one.f] (by simp) rfl ⟨rfl,rfl,rfl,rfl,rfl⟩ { HZ.out.fit with main:=HZ.out.fit.main,b:=Bem.one_ok HZ.out.fit.b },Bt.sets HZ.out.nd [.int .i64 M2.b.one.l,.int .i64 M2.b.one.a,.bool M2.b.one.g,.int .i64 M2.b.one.f] 61 _ (Bt.kept HZT.out HZ.out.big hb3)⟩ ?_
 intro V hV
 obtain ⟨M3,hM3⟩:∃ M3:Mach,M3={ M2 with b:=M2.b.one }:=⟨_,rfl⟩
 rw [<- hM3] at hV
 have HV:=hid hV.1
 have HVT:=hid hV.2
 have hE:M.goOn={ M3 with clock:=M3.clock+1 }:=by
  rw [hM3,HM2.out,HM1.out,HT1.out];rfl
 have HE:=hid hE
 have hcl3:0<=M3.clock/\M3.clock<=200000:=by rw [hM3,HM2.out,HM1.out];exact hcl
 have d0:=HV.out.at 72 (.int .i64 M3.clock) rfl
 have df:=HV.out.bx.f 72
 have dz:=HV.out.bx.z
 have hwr:IntKind.i64.wrap (M3.clock+1)=M3.clock+1:=by rw [IntKind.wrap_i64];omega
 clear hV hM3 hE hb3 k3 f3 z3 b0 b1 b2 b3 ff hg HZ HZT hcl
 go_wp2
 go_end0
 refine ⟨rfl,?_,Bt.set HV.out.nd HVT.out 72 _⟩
 rw [HE.out]
 exact HV.out.put 72 _ (by omega) rfl ⟨rfl,rfl,rfl,rfl,rfl⟩ (by rw [<- HE.out];exact HFF.out)
end
section
variable {F : Fx} {N c : Nat} {vco vln vsm vw : Value} {w w1 : World} {k : Cs} {X : Mach} {L1 L2 : List Value} {Y : World} {D : Nat}
theorem clocks_succ (k0:Cs) (j:Nat):k0.clocks (j+1)={ (k0.clocks j).now with s:=⟨(k0.clocks j).now.s.M.goOn,(k0.clocks j).now.s.n,(k0.clocks j).now.s.l⟩ }:=rfl
theorem goOn_step (hF:Fb F N) {q:Cs} {w2 w3:World} {v:Value} (h:CI F N c vco vln vsm w2 q) (hB:Bd F w3 q.s.M.goOn ⟨q.s.n,q.s.l,v⟩) (hT:Bt F w2 w3):CI F N c vco vln vsm w3 { q with s:=⟨q.s.M.goOn,q.s.n,q.s.l⟩ } :=
 h.step (NM.of (s':=⟨q.s.M.goOn,q.s.n,q.s.l⟩) hF h.i h.i.n hB hT)
structure RR (w : World) (L1 L2 : List Value) (Y : World) : Prop where
 low:Below w.heap.size w Y
 b1:Bx Y (w.heap.size+1) L1
 b2:Bx Y (w.heap.size+2) L2
theorem RR.kept (h:RR w L1 L2 Y) (hb:Below Y.heap.size Y w1):RR w L1 L2 w1:=⟨stp h.low hb,h.b1.kept hb,h.b2.kept hb⟩
theorem RR.far {B:Nat} (h:RR w L1 L2 Y) (hB:w.heap.size+3<=B) (hb:Below B Y w1):RR w L1 L2 w1:=⟨h.low.trans (hb.mono (by omega)),h.b1.same hb.size (hb.block _ (by omega)),h.b2.same hb.size (hb.block _ (by omega))⟩
structure FW (F : Fx) (N : Nat) (k : Cs) (X : Mach) (vln vsm vw : Value) (w : World) (D : Nat) (L1 L2 : List Value) (Y : World) : Prop extends RR w L1 L2 Y where
 o1:Bx Y D (machL X F.S)
 o2:Bx Y (D+1) [vln,vsm,vw]
 told:Told F N k vln vsm vw Y
 dz:w.heap.size+3<=D
 new:SlNew F.B F.S
 bz:w.heap.size+3<=F.B/\F.B<=N
theorem FW.s (h:FW F N k X vln vsm vw w D L1 L2 Y):Y.rangeAt D 0 (machL X F.S)/\Y.rangeAt (D+1) 0 [vln,vsm,vw]:=⟨h.o1.c,h.o2.c⟩
theorem FW.kept (h:FW F N k X vln vsm vw w D L1 L2 Y) (hb:Below Y.heap.size Y w1):FW F N k X vln vsm vw w D L1 L2 w1 :=
 ⟨h.toRR.kept hb,h.o1.kept hb,h.o2.kept hb,⟨h.told.sl.kept hb,h.told.fit,ows_of h.told.ln (fun j e=>hb.block j (row_at h.told.ln j e).2.1),ows_of h.told.sm (fun j e=>hb.block j (row_at h.told.sm j e).2.1),ows_of h.told.ws (fun j e=>hb.block j (row_at h.told.ws j e).2.1)⟩,h.dz,h.new,h.bz⟩
theorem Told.far {b o:Nat} {vs:List Value} (h:Told F N k vln vsm vw Y) (hn:SlNew F.B F.S) (hb:b < F.B) (hN:F.B<=N):Told F N k vln vsm vw (Y.setCells b o vs) :=
 ⟨h.sl.off hn hb o vs,h.fit,ows_of h.ln (fun j e=>heap_sets_far (by have:=(row_at h.ln j e).1;omega) _ _ _),ows_of h.sm (fun j e=>heap_sets_far (by have:=(row_at h.sm j e).1;omega) _ _ _),ows_of h.ws (fun j e=>heap_sets_far (by have:=(row_at h.ws j e).1;omega) _ _ _)⟩
theorem FW.put1 (h:FW F N k X vln vsm vw w D (machL zeroM nilS) L2 Y):FW F N k X vln vsm vw w D (machL X F.S) L2 (Y.setCells (w.heap.size+1) 0 (machL X F.S)):=by
 obtain ⟨z1,z2⟩:=h.bz
 have z3:=h.dz
 have hx:=h.b1.puts 0 (machL X F.S) (by rw [machL_len,machL_len];omega)
 rw [putL_whole _ _ (by rw [machL_len,machL_len])] at hx
 exact ⟨⟨below_sets' h.low (by omega) _ _,hx,DW.bb h.b2 (by omega)⟩,DW.bb h.o1 (by omega),DW.bb h.o2 (by omega),h.told.far h.new (by omega) z2,h.dz,h.new,h.bz⟩
theorem FW.put2 {x y z:Value} (h:FW F N k X vln vsm vw w D L1 [x,y,z] Y):FW F N k X vln vsm vw w D L1 [vln,vsm,vw] (Y.setCells (w.heap.size+2) 0 [vln,vsm,vw]):=by
 obtain ⟨z1,z2⟩:=h.bz
 have z3:=h.dz
 have hx:=h.b2.puts 0 [vln,vsm,vw] (by simp)
 rw [putL_whole _ _ (by simp)] at hx
 exact ⟨⟨below_sets' h.low (by omega) _ _,DW.bb h.b1 (by omega),hx⟩,DW.bb h.o1 (by omega),DW.bb h.o2 (by omega),h.told.far h.new (by omega) z2,h.dz,h.new,h.bz⟩
structure EW (F : Fx) (N : Nat) (k : Cs) (X : Mach) (vln vsm vw : Value) (w : World) (D : Nat) (L1 L2 : List Value) (Y : World) : Prop extends RR w L1 L2 Y where
 o1:Bx Y D (machL X F.S)
 o2:Bx Y (D+1) L2
 old:∃ w2:World,w2.heap.size=D/\Told F N k vln vsm vw w2/\Below w2.heap.size w2 Y
 dz:w.heap.size+3<=D
theorem Told.kept (h:Told F N k vln vsm vw Y) (hb:Below Y.heap.size Y w1):Told F N k vln vsm vw w1:=⟨h.sl.kept hb,h.fit,ows_of h.ln (fun j e=>hb.block j (row_at h.ln j e).2.1),ows_of h.sm (fun j e=>hb.block j (row_at h.sm j e).2.1),ows_of h.ws (fun j e=>hb.block j (row_at h.ws j e).2.1)⟩
theorem EW.mk' {w2:World} (hR:RR w (machL zeroM nilS) [.slice none 0 0,.slice none 0 0,.slice none 0 0] w2) (hT:Told F N k vln vsm vw w2):EW F N k X vln vsm vw w w2.heap.size (machL zeroM nilS) [.slice none 0 0,.slice none 0 0,.slice none 0 0] (((w2.alloc (.cells (machL zeroM nilS).toArray 41)).alloc (.cells #[.slice none 0 0,.slice none 0 0,.slice none 0 0] 50)).setCells w2.heap.size 0 (machL X F.S)):=by
 have hb:Below w2.heap.size w2 (((w2.alloc (.cells (machL zeroM nilS).toArray 41)).alloc (.cells #[.slice none 0 0,.slice none 0 0,.slice none 0 0] 50)).setCells w2.heap.size 0 (machL X F.S)):=Bl.puts (stA (stA (st0 w2) _) _) (Nat.le_refl _) _
 have hx:=((Bx.new w2 (machL zeroM nilS) 41 (b:=w2.heap.size) rfl).over (.cells #[.slice none 0 0,.slice none 0 0,.slice none 0 0] 50)).puts 0 (machL X F.S) (by rw [machL_len,machL_len];omega)
 rw [putL_whole _ _ (by rw [machL_len,machL_len])] at hx
 have hz:=hR.b2.z
 exact ⟨hR.kept hb,hx,DW.bb (Bx.new (w2.alloc (.cells (machL zeroM nilS).toArray 41)) [.slice none 0 0,.slice none 0 0,.slice none 0 0] 50 (b:=w2.heap.size+1) (by simp)) (by omega),⟨w2,rfl,hT,hb⟩,by omega⟩
theorem EW.fw (h:EW F N k X vln vsm vw w D (machL zeroM nilS) [.slice none 0 0,.slice none 0 0,.slice none 0 0] Y) (hn:SlNew F.B F.S) (hz:w.heap.size+3<=F.B/\F.B<=N):FW F N k X vln vsm vw w D (machL zeroM nilS) [.slice none 0 0,.slice none 0 0,.slice none 0 0] (Y.setCells (D+1) 0 [vln,vsm,vw]):=by
 obtain ⟨w2,rfl,hT,hb⟩:=h.old
 obtain ⟨z1,z2⟩:=hz
 have z3:=h.dz
 have hx:=h.o2.puts 0 [vln,vsm,vw] (by simp)
 rw [putL_whole _ _ (by simp)] at hx
 have hb':Below w2.heap.size w2 (Y.setCells (w2.heap.size+1) 0 [vln,vsm,vw]):=below_sets' hb (by omega) _ _
 exact ⟨⟨below_sets' h.low (by omega) _ _,DW.bb h.b1 (by omega),DW.bb h.b2 (by omega)⟩,DW.bb h.o1 (by omega),hx,hT.kept hb',h.dz,hn,⟨z1,z2⟩⟩
theorem Lk.run_ok (M:Mach) (S:Sl) (v:Value) (l:List Inp) (n:Nat) (w:World) (hs:SlAt w S M) (hsh:shapesAt w) (hin:InpAt w.heap.size w v l) (hd:∀ x ∈ l,0<=x.d/\x.d<=255) (hf:M.fit) (hf2:M.b.f<=20000) (hc:chkIn l M.clock=0) (hn:n<=20000/\M.clock+n<=200000) :
 Calls Tryz.prog 10 #[.agg (machL M S).toArray,v,.int .i64 n] w fun e w'=>∃ (F:Fx) (N:Nat) (vln vsm vw:Value),e = .returned (.tuple #[.agg (machL (Cs.clocks ⟨⟨M,0,[]⟩,l,[],[]⟩ n).s.M F.S).toArray,.agg #[vln,vsm,vw],.int .i64 0])/\Told F N (Cs.clocks ⟨⟨M,0,[]⟩,l,[],[]⟩ n) vln vsm vw w'/\w.heap.size<=F.B/\F.B<=N/\SlNew F.B F.S/\Below w.heap.size w w':=by
 obtain ⟨k0,hk0⟩:∃ k0:Cs,k0=⟨⟨M,0,[]⟩,l,[],[]⟩:=⟨_,rfl⟩
 rw [<- hk0]
 have HK0:=hid hk0
 have hBm:=Bx.new w (machL M S) 41 (b:=w.heap.size) rfl
 have hW:Below w.heap.size w (((w.alloc (.cells (machL M S).toArray 41)).alloc (.cells (machL zeroM nilS).toArray 41)).alloc (.cells #[.slice none 0 0,.slice none 0 0,.slice none 0 0] 50)):=stA (stA (stA (st0 w) _) _) _
 have HRR:Hid (RR w (machL zeroM nilS) [.slice none 0 0,.slice none 0 0,.slice none 0 0] (((w.alloc (.cells (machL M S).toArray 41)).alloc (.cells (machL zeroM nilS).toArray 41)).alloc (.cells #[.slice none 0 0,.slice none 0 0,.slice none 0 0] 50))) :=
  ⟨hW,(Bx.new (w.alloc (.cells (machL M S).toArray 41)) (machL zeroM nilS) 41 (b:=w.heap.size+1) (by simp)).over _,Bx.new ((w.alloc (.cells (machL M S).toArray 41)).alloc (.cells (machL zeroM nilS).toArray 41)) [.slice none 0 0,.slice none 0 0,.slice none 0 0] 50 (b:=w.heap.size+2) (by simp)⟩
 have HBM:=hid ((hBm.over (.cells (machL zeroM nilS).toArray 41)).over (.cells #[.slice none 0 0,.slice none 0 0,.slice none 0 0] 50))
 have HS:=hid (hs.kept hW)
 have HSH:=hid (shapes_same hsh (hW.block _ (shapes_lt hsh)))
 have HIN:=hid ((hin.kept hW).mono hW.size)
 have HD:=hid hd
 have HF:=hid hf
 have HF2:=hid hf2
 have HC:=hid hc
 have HN:=hid hn
 clear hs hsh hin hd hf hf2 hc hn hBm hW hk0
 go_enter Tryz.func10,Tryz.ntmps10
 go_wp2_with (first
  | (refine wpList_load_mid rfl 41 _ rfl w.heap.size 0 rfl (machL M S) _ HBM.out.c Tryz.underlying41 rfl info_mach ?_)
  | (go_at_call 25;refine (Lk.open_ok M S v l n _ HS.out HSH.out HIN.out HD.out HF.out HF2.out HC.out ⟨by omega,by have:=HN.out;omega,HN.out.2⟩).mono ?_;rintro e w1 ⟨F,N,c,rfl,hF,hFB,hmr,hCI,hb1⟩;have HFF:=hid hF;have HFB:=hid hFB;have HMR:=hid hmr;have HCI:=hid hCI;have HR1:=hid (HRR.out.kept hb1);clear hF hFB hmr hCI hb1))
 have hci:=HCI.out
 rw [<- HK0.out] at hci
 have HCI0:=hid hci
 have hk0l:k0.ln.length=0/\k0.sm.length=0/\k0.s.l.length=0/\k0.s.M.clock=M.clock:=by rw [HK0.out];exact ⟨rfl,rfl,rfl,rfl⟩
 have HKL:=hid hk0l
 have hFB3:w.heap.size+3<=F.B:=by have:=HFB.out;simp at this;omega
 have HFB3:=hid hFB3
 clear hci hk0l hFB3 HCI HBM HRR HFB HSH HIN HS
 go_loopw [26] (fun i wr=>∃ (j:Nat) (vco vln vsm:Value),j<=n/\i = .int .i64 j/\CI F N c vco vln vsm wr (k0.clocks j)/\RR w (machL zeroM nilS) [.slice none 0 0,.slice none 0 0,.slice none 0 0] wr) (fun i _=>n - (intOf i).toNat)
 case atStart=>exact ⟨0,v,_,_,Nat.zero_le _,rfl,HCI0.out,HR1.out⟩
 case round =>
  obtain ⟨j,vco,vln,vsm,hj,rfl,hX,hR⟩:=hrel
  have HX:=hid hX
  have HR:=hid hR
  have hat:=clocks_at HFF.out k0 (by have:=HKL.out.2.2.1;omega) j (by have:=HN.out;omega)
  obtain ⟨q1,q2,q3,q4⟩:=hat
  rw [HKL.out.2.2.2] at q1
  rw [HKL.out.1] at q2
  rw [HKL.out.2.1] at q3
  rw [HKL.out.2.2.1] at q4
  have Q1:=hid q1
  have Q2:Hid ((k0.clocks j).ln.length<=100000):=hid (by have:=HN.out;omega)
  have Q3:Hid ((k0.clocks j).sm.length<=100000):=hid (by have:=HN.out;omega)
  have Q4:Hid ((k0.clocks j).s.l.length<=1000000):=hid (by have:=HN.out;omega)
  obtain ⟨k,hk⟩:∃ k,k=k0.clocks j:=⟨_,rfl⟩
  have HK:=hid hk
  rw [<- hk] at HX Q1 Q2 Q3 Q4
  clear hX hR q1 q2 q3 q4 hk HCI0 HR1
  by_cases hlt:j < n
  ·as_aux_lemma =>
   have hjl:(j:Int) < n:=by omega
   have hck:k.now.s.M.clock < 200000:=by rw [now_clock,Q1.out];have:=HN.out;omega
   obtain ⟨q,hq⟩:∃ q,q=k.now:=⟨_,rfl⟩
   have hno:=Lk.now HFF.out HX.out Q2.out Q3.out Q4.out
   rw [<- hq] at hck hno
   have HNO:=hid hno
   have HCK:=hid hck
   have HQ:Hid (k0.clocks (j+1)={ q with s:=⟨q.s.M.goOn,q.s.n,q.s.l⟩ }):=hid (by rw [clocks_succ,hq,HK.out])
   clear hno hck hq
   go_wp2_with (first
    | (go_at_call 26;refine HNO.out.mono ?_;rintro e w2 ⟨rfl,u1,u2,u3,hX2,hb2⟩;have HX2:=hid hX2;have HR2:=hid (HR.out.far HFB3.out hb2);have m0:=hX2.cb.bx.at 0 _ rfl;have mz:=hX2.cb.z;clear hX2 hb2))
   as_aux_lemma =>
    obtain ⟨vv,hBd⟩:=HX2.out.i.bd
    refine (Lk.goOn hBd HCK.out).mono ?_
    rintro e w3 ⟨rfl,hB3,hT3⟩
    have HX3:=hid (goOn_step HFF.out HX2.out hB3 hT3)
    have HR3:=hid (HR2.out.far HFB3.out (Mv.below hT3))
    clear hBd hB3 hT3
    have hjs:(j:Int) < 20000:=by have:=HN.out;omega
    have hjp:0<=(j:Int):=by omega
    as_aux_lemma =>
     go_wp2
     exact ⟨⟨j+1,u1,u2,u3,by omega,by simp,by rw [HQ.out];exact HX3.out,HR3.out⟩,by simp [intOf];omega⟩
  ·as_aux_lemma =>
   have hjn:j=n:=by omega
   subst hjn
   have hnl:¬ (j:Int) < j:=by omega
   obtain ⟨X,hX⟩:∃ X,X=k.s.M:=⟨_,rfl⟩
   have hdn:=Lk.done HFF.out HX.out
   rw [<- hX] at hdn
   have HDN:=hid hdn
   have HNW:Hid (SlNew F.B F.S/\F.B<=N):=hid (by obtain ⟨vv,hBd⟩:=HX.out.i.bd;exact ⟨hBd.slNew HMR.out,HX.out.bigN HFF.out⟩)
   obtain ⟨a2,n2,c2,e2⟩:=row_slice HX.out.ln
   obtain ⟨a3,n3,c3,e3⟩:=row_slice HX.out.sm
   have HXE:=hid hX
   clear hdn hX hlt
   subst e2 e3
   have HSI:Hid F.S.isSl:=hid (by obtain ⟨vv,hBd⟩:=HX.out.i.bd;exact hBd.isSl)
   go_upto_region 10 with (first
    | (go_at_call 28;refine HDN.out.mono ?_;rintro e w2 ⟨vw,rfl,hT2,hb2⟩;obtain ⟨a4,n4,c4,e4⟩:=row_slice hT2.ws;subst e4;have HT2:=hid hT2;have HR2:=hid (HR.out.far HFB3.out hb2);clear hT2 hb2)
    | (refine wpList_store_mid rfl 41 _ _ rfl w2.heap.size 0 (machL X F.S).toArray rfl rfl (((Bx.new w2 (machL zeroM nilS) 41 (b:=w2.heap.size) rfl).over (.cells #[.slice none 0 0,.slice none 0 0,.slice none 0 0] 50)).there 0 75 (by rw [machL_len];omega)) info_mach (machL_one _ _ HSI.out) ?_
       refine Pl.cutL (EW F N k X (.slice a2 n2 c2) (.slice a3 n3 c3) (.slice a4 n4 c4) w w2.heap.size (machL zeroM nilS) [.slice none 0 0,.slice none 0 0,.slice none 0 0]) (EW.mk' HR2.out HT2.out) ?_
       intro Z hZ
       have HZ:=hid hZ
       have y0:=hZ.o2.at 0 _ rfl
       have y1:=hZ.o2.at 1 _ rfl
       have y2:=hZ.o2.at 2 _ rfl
       have yf:=hZ.o2.f
       have yz:=hZ.o2.z
       clear hZ))
   refine Pl.cutW (FW F N k X (.slice a2 n2 c2) (.slice a3 n3 c3) (.slice a4 n4 c4) w w2.heap.size (machL zeroM nilS) [.slice none 0 0,.slice none 0 0,.slice none 0 0]) (EW.fw HZ.out HNW.out.1 ⟨HFB3.out,HNW.out.2⟩) ?_
   intro Y1 hY1
   have HY:=hid (hY1.kept (st0 Y1).drew)
   obtain ⟨D,hD⟩:∃ D,D=w2.heap.size:=⟨_,rfl⟩
   clear hY1 HZ y0 y1 y2 yf yz HR2 HT2 HR HX HDN
   refine wp_region_held_drew (S:=fun w'=>w'.rangeAt w2.heap.size 0 (machL X F.S)/\w'.rangeAt (w2.heap.size+1) 0 [.slice a2 n2 c2,.slice a3 n3 c3,.slice a4 n4 c4]) (by kernel_rfl) (HY.out.s) ?_
   intro hS
   refine wpAnyH_take (i:=0) (oi:=⟨some 41,_,_,_,_,none⟩) (v:=.agg (machL X F.S).toArray) rfl (by kernel_rfl) (by kernel_rfl) (by kernel_rfl) (fun _ _ _ h=>h) (Or.inl ⟨by rfl,fun w' hSw=>exec_load_mid 41 _ rfl w2.heap.size 0 rfl (machL X F.S) _ hSw.1 Tryz.underlying41 rfl info_mach⟩) hS ?_
   simp only [Act.put,xA,xB,xC]
   refine wpAnyH_take (i:=1) (oi:=⟨some 42,_,_,_,_,none⟩) (v:=.agg ([.slice a2 n2 c2,.slice a3 n3 c3,.slice a4 n4 c4]).toArray) rfl (by kernel_rfl) (by kernel_rfl) (by kernel_rfl) (fun _ _ _ h=>h) (Or.inl ⟨by rfl,fun w' hSw=>exec_load_mid 50 _ rfl (w2.heap.size+1) 0 rfl ([.slice a2 n2 c2,.slice a3 n3 c3,.slice a4 n4 c4]) _ hSw.2 Tryz.underlying50 rfl info_shown⟩) hS ?_
   simp only [Act.put,xA,xB,xC]
   have HY1:=hid HY.out.put1
   refine readyH_store (i:=2) (op:=⟨none,_,_,_,_,none⟩) (by kernel_rfl) rfl rfl 41 _ _ rfl (w.heap.size+1) 0 (machL X F.S).toArray rfl rfl (HY.out.b1.there 0 75 (by rw [machL_len];omega)) info_mach (machL_one _ _ HSI.out) HY1.out.s ?_
   have HY2:=hid HY1.out.put2
   have hth:=HY1.out.b2.there 0 3 (by simp)
   have hone:(([.slice a2 n2 c2,.slice a3 n3 c3,.slice a4 n4 c4]:List Value)).toArray.all (·.oneCell')=true:=by simp [Value.oneCell']
   have hss:=HY2.out.s
   clear hS
   refine readyH_store (i:=3) (op:=⟨none,_,_,_,_,none⟩) (by kernel_rfl) rfl rfl 50 _ _ rfl (w.heap.size+2) 0 #[.slice a2 n2 c2,.slice a3 n3 c3,.slice a4 n4 c4] rfl rfl hth info_shown hone hss ?_
   have hS:=HY2.out.s
   refine wpAnyH_take (i:=4) (oi:=⟨some 8,_,_,_,_,none⟩) (v:=?_) rfl (by kernel_rfl) (by kernel_rfl) (by kernel_rfl) (fun _ _ _ h=>h) (Or.inl ⟨by rfl,?_⟩) hS ?_
   rotate_left 1
   focus (intro w hSw;clear hSw;go_simp;try (with_reducible rfl))
   simp only [Act.put,xA,xB,xC]
   refine wpAnyH_done (by kernel_rfl) ?_ _
   refine Pl.cutE (FW F N k X (.slice a2 n2 c2) (.slice a3 n3 c3) (.slice a4 n4 c4) w w2.heap.size (machL X F.S) [.slice a2 n2 c2,.slice a3 n3 c3,.slice a4 n4 c4]) HY2.out ?_
   intro V hV
   have HV:=hid hV
   clear hV HY HY1 HY2 hth hone hss hS
   go_wp2
   have hXk:=HXE.out
   have hkk:=HK.out
   refine bodyPost_ret (v:=.tuple #[.agg (machL X F.S).toArray,.agg #[.slice a2 n2 c2,.slice a3 n3 c3,.slice a4 n4 c4],.int .i64 0]) ?_ rfl ⟨F,N,_,_,_,by rw [hXk,hkk],by have h:=HV.out.told;rw [hkk] at h;exact h,by have:=HFB3.out;omega,HNW.out.2,HNW.out.1,HV.out.low⟩
   have l1:=run_loadVar_mid V (w.heap.size+1) 0 41 _ _ HV.out.b1.c Tryz.underlying41 rfl info_mach
   have l2:=run_loadVar_mid V (w.heap.size+2) 0 50 _ _ HV.out.b2.c Tryz.underlying50 rfl info_shown
   simp only [results,Tryz.results10]
   simp
   show (Result.andThen (Sem.run Tryz.prog (loadVar 41 ⟨w.heap.size+1,0,none⟩) V) _)=_
   rw [l1]
   show (Result.andThen (Sem.run Tryz.prog (loadVar 50 ⟨w.heap.size+2,0,none⟩) V) _)=_
   rw [l2]
   rfl
end
/-! ### what no processor touches: where the beam is, when the next sample comes -/
structure Mach.alike (M M' : Mach) : Prop where
 l:M'.b.l=M.b.l
 a:M'.b.a=M.b.a
 f:M'.b.f=M.b.f
 w:M'.s.w=M.s.w
theorem alike_refl (M:Mach):M.alike M:=⟨rfl,rfl,rfl,rfl⟩
theorem Mach.alike.trans {M M' M'':Mach} (h:M.alike M') (k:M'.alike M''):M.alike M'':=⟨k.l.trans h.l,k.a.trans h.a,k.f.trans h.f,k.w.trans h.w⟩
theorem xfer_alike (M:Mach):∀ k,M.alike (M.xfer k)
 | 0=>alike_refl M
 | k+1=>(xfer_alike M k).trans ⟨rfl,rfl,rfl,rfl⟩
theorem rdM_alike (M:Mach) (a:Int):M.alike (M.rdM a).2:=by
 unfold Mach.rdM
 split
 ·unfold Mach.portM
  split <;> exact ⟨rfl,rfl,rfl,rfl⟩
 ·exact alike_refl M
theorem rdA_alike (M:Mach) (a:Int):M.alike (M.rdA a).2:=by
 unfold Mach.rdA
 split
 ·unfold Mach.portA
  split <;> exact ⟨rfl,rfl,rfl,rfl⟩
 ·exact alike_refl M
theorem letGo_alike (M:Mach) (n:Int):M.alike (M.letGo n):=by
 unfold Mach.letGo
 split <;> exact ⟨rfl,rfl,rfl,rfl⟩
theorem wrM_alike (M:Mach) (a n:Int):M.alike (M.wrM a n):=by
 unfold Mach.wrM
 split
 ·unfold Mach.putM
  split
  all_goals first
   | exact ⟨rfl,rfl,rfl,rfl⟩
   | exact xfer_alike _ _
   | exact letGo_alike _ _
 ·unfold Mach.memM
  split
  ·exact alike_refl M
  ·split
   ·exact ⟨rfl,rfl,rfl,rfl⟩
   ·split <;> exact ⟨rfl,rfl,rfl,rfl⟩
theorem sput_w (s:Sd) (p:Nat) (n:Int):(s.put p n).w=s.w:=by
 unfold Sd.put
 split
 ·rfl
 ·split <;> rfl
theorem wrA_alike (M:Mach) (a n:Int):M.alike (M.wrA a n):=by
 unfold Mach.wrA
 split
 ·unfold Mach.putA
  split
  ·exact ⟨rfl,rfl,rfl,sput_w _ _ _⟩
  ·split <;> exact ⟨rfl,rfl,rfl,rfl⟩
 ·unfold Mach.memA
  split
  ·exact alike_refl M
  ·split
   ·exact ⟨rfl,rfl,rfl,rfl⟩
   ·split
    ·split <;> exact ⟨rfl,rfl,rfl,rfl⟩
    ·exact alike_refl M
theorem stepMain_alike (s:Bst):s.M.alike s.stepMain.M:=by
 unfold Bst.stepMain
 split
 ·exact alike_refl _
 ·have h:=C.keeps_step (m:=mainMem) (P:=fun x=>s.M.alike x.M) (fun x a h=>h.trans (rdM_alike x.M a)) (fun x a b h=>h.trans (wrM_alike x.M a _)) s.M.main ⟨s.M,0,s.l⟩ (s.M.t.g || s.M.b.g) (alike_refl _)
  exact ⟨h.l,h.a,h.f,h.w⟩
theorem stepAux_alike (s:Bst):s.M.alike s.stepAux.M:=by
 unfold Bst.stepAux
 split
 ·exact alike_refl _
 ·have h:=C.keeps_step (m:=auxMem) (P:=fun x=>s.M.alike x.M) (fun x a h=>h.trans (rdA_alike x.M a)) (fun x a b h=>h.trans (wrA_alike x.M a _)) s.M.aux s s.M.rung (alike_refl _)
  exact ⟨h.l,h.a,h.f,h.w⟩
theorem press_alike (M:Mach) (x:Inp):M.alike (M.press x):=by
 unfold Mach.press
 split <;> exact ⟨rfl,rfl,rfl,rfl⟩
theorem pressed_alike:∀ (l:List Inp) (M:Mach),M.alike (M.pressed l)
 | [],M=>alike_refl M
 | x :: l,M=>by
  unfold Mach.pressed
  split
  ·exact (press_alike M x).trans (pressed_alike l _)
  ·exact alike_refl M
theorem now_alike (k:Cs):k.s.M.alike k.now.s.M :=
 (pressed_alike k.co k.s.M).trans ((stepMain_alike ⟨k.s.M.pressed k.co,k.s.n,k.s.l⟩).trans (stepAux_alike _))
structure Cs.runs (k0 k : Cs) (j : Nat) : Prop where
 l:k.s.M.b.l=bmL k0.s.M.b.l k0.s.M.b.a j
 a:k.s.M.b.a=bmA k0.s.M.b.l k0.s.M.b.a j
 f:k.s.M.b.f=bmF k0.s.M.b.l k0.s.M.b.a k0.s.M.b.f j
 w:k.s.M.s.w=(k0.s.M.s.ticks j).w
theorem ticks_w {s s':Sd} (h:s.w=s'.w):(s.ticks 1).w=(s'.ticks 1).w:=by
 show (if s.w=0 then 15 else s.w - 1)=(if s'.w=0 then 15 else s'.w - 1)
 rw [h]
theorem clocks_runs (k0:Cs) (hb:BOk k0.s.M.b.l k0.s.M.b.a k0.s.M.b.f) (hf:k0.s.M.b.f<=19000):∀ j:Nat,j<=20000->Cs.runs k0 (k0.clocks j) j
 | 0,_=>by
  have:=bm_zero k0.s.M.b.l k0.s.M.b.a k0.s.M.b.f false ⟨hb.l0,hb.l1⟩ ⟨hb.a0,hb.a1⟩
  exact ⟨this.1.symm,this.2.1.symm,this.2.2.2.symm,rfl⟩
 | j+1,hj=>by
  have ih:=clocks_runs k0 hb hf j (by omega)
  obtain ⟨k,hk⟩:∃ k,k=k0.clocks j:=⟨_,rfl⟩
  have e:k0.clocks (j+1)=k.clock:=by rw [hk];rfl
  rw [<- hk] at ih
  rw [e]
  have hn:=now_alike k
  have l0:=hb.l0;have l1:=hb.l1;have a0:=hb.a0;have a1:=hb.a1;have f0:=hb.f0
  have e1:k.now.s.M.b.l=bmL k0.s.M.b.l k0.s.M.b.a j:=hn.l.trans ih.l
  have e2:k.now.s.M.b.a=bmA k0.s.M.b.l k0.s.M.b.a j:=hn.a.trans ih.a
  have e3:k.now.s.M.b.f=bmF k0.s.M.b.l k0.s.M.b.a k0.s.M.b.f j:=hn.f.trans ih.f
  have hbd:=bm_bd k0.s.M.b.l k0.s.M.b.a j ⟨l0,l1⟩ ⟨a0,a1⟩ (by omega)
  have hF:0<=bmF k0.s.M.b.l k0.s.M.b.a k0.s.M.b.f j/\bmF k0.s.M.b.l k0.s.M.b.a k0.s.M.b.f j<=20000:=by unfold bmF;omega
  have hok:bok k.now.s.M.b.l k.now.s.M.b.a k.now.s.M.b.f=true:=by
   rw [e1,e2,e3]
   exact (bok_iff _ _ _).2 ⟨hbd.1.1,hbd.1.2,hbd.2.1,hbd.2.2,hF.1,hF.2⟩
  have hadd:=bm_add k0.s.M.b.l k0.s.M.b.a k0.s.M.b.f j 1 false ⟨l0,l1⟩ ⟨a0,a1⟩ (by omega) (by omega)
  have ho:k.clock.s.M.b=⟨bmL k.now.s.M.b.l k.now.s.M.b.a 1,bmA k.now.s.M.b.l k.now.s.M.b.a 1,bmG k.now.s.M.b.l k.now.s.M.b.a k.now.s.M.b.g 1,bmF k.now.s.M.b.l k.now.s.M.b.a k.now.s.M.b.f 1⟩:=by
   show k.now.s.M.b.one=_
   unfold Bem.one
   rw [if_pos hok]
  refine ⟨?_,?_,?_,?_⟩
  ·rw [ho];show bmL k.now.s.M.b.l k.now.s.M.b.a 1=_
   rw [e1,e2,hadd.1];push_cast;rfl
  ·rw [ho];show bmA k.now.s.M.b.l k.now.s.M.b.a 1=_
   rw [e1,e2,hadd.2.1];push_cast;rfl
  ·rw [ho];show bmF k.now.s.M.b.l k.now.s.M.b.a k.now.s.M.b.f 1=_
   rw [e1,e2,e3,hadd.2.2.2];push_cast;rfl
  ·show (k.now.s.M.s.ticks 1).w=_
   rw [ticks_w (s:=k.now.s.M.s) (s':=k0.s.M.s.ticks j) (hn.w.trans ih.w),Sd.ticks_add]
/-! ### how many samples -/
theorem sms1_len (s s':Sd) (h:s.w=s'.w):(if s.w=0 then sms s 1 else []).length=(one s').length:=by
 unfold one
 rw [h]
 split
 ·rename_i h0
  show ([]++one s).length=_
  unfold one
  rw [if_pos (h.trans h0)]
  rfl
 ·rfl
theorem clocks_sm (k0:Cs) (hb:BOk k0.s.M.b.l k0.s.M.b.a k0.s.M.b.f) (hf:k0.s.M.b.f<=19000):∀ j:Nat,j<=20000->(k0.clocks j).sm.length=k0.sm.length+(sms k0.s.M.s j).length
 | 0,_=>by simp [Cs.clocks,sms]
 | j+1,hj=>by
  have ih:=clocks_sm k0 hb hf j (by omega)
  have hr:=clocks_runs k0 hb hf j (by omega)
  obtain ⟨k,hk⟩:∃ k,k=k0.clocks j:=⟨_,rfl⟩
  have e:k0.clocks (j+1)=k.clock:=by rw [hk];rfl
  rw [<- hk] at ih hr
  rw [e]
  show (k.sm++(k.s.M.pressed k.co).sample).length=_
  have h1:((k.s.M.pressed k.co).sample).length=(one (k0.s.M.s.ticks j)).length:=sms1_len _ _ ((pressed_alike k.co k.s.M).w.trans hr.w)
  rw [List.length_append,ih,h1]
  simp only [sms,List.length_append]
  omega
/-! ### which lines -/
def lineAt (l a f:Int) (j:Nat):Option (Int × Int):=if bmA l a j=0/\bmL l a j < 8 then some (bmF l a f j,bmL l a j) else none
def linesAt (l a f:Int):Nat->List (Int × Int)
 | 0=>[]
 | j+1=>linesAt l a f j++(lineAt l a f j).toList
theorem clocks_ln (k0:Cs) (hb:BOk k0.s.M.b.l k0.s.M.b.a k0.s.M.b.f) (hf:k0.s.M.b.f<=19000) (h0:k0.ln=[]):∀ j:Nat,j<=20000->(k0.clocks j).ln.map (fun x=>(x.f,x.l))=linesAt k0.s.M.b.l k0.s.M.b.a k0.s.M.b.f j
 | 0,_=>by simp [Cs.clocks,linesAt,h0]
 | j+1,hj=>by
  have ih:=clocks_ln k0 hb hf h0 j (by omega)
  have hr:=clocks_runs k0 hb hf j (by omega)
  obtain ⟨k,hk⟩:∃ k,k=k0.clocks j:=⟨_,rfl⟩
  have e:k0.clocks (j+1)=k.clock:=by rw [hk];rfl
  rw [<- hk] at ih hr
  rw [e]
  show (k.ln++(k.s.M.pressed k.co).line).map _=_
  have hp:=pressed_alike k.co k.s.M
  have e1:=hp.l.trans hr.l
  have e2:=hp.a.trans hr.a
  have e3:=hp.f.trans hr.f
  rw [List.map_append,ih]
  simp only [linesAt]
  congr 1
  unfold Mach.line lineAt
  rw [e1,e2,e3]
  split <;> rfl
/-! ### who is held, and waits -/
theorem step_waits {σ:Type} {m:C.Mem σ} (c:C.Cpu) (s:σ) (r:Bool) (h1:c.Waits=true) (h2:c.May=false):C.step m c s r=⟨c,s,1⟩:=by
 unfold C.step
 rw [h2,Bool.and_false,if_neg (by simp),if_pos h1]
end Go.Proofs.YtbhpfkjfijdmaaaGreatDoor
