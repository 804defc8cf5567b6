/-
  Parts of a proof, joined.
-/
import Derived.Test.YtbhpfkjfijdmaaaGreatDoorZy14
import Derived.Deep.RegionWith
import Derived.Deep.DeepCutAuto
import Derived.Test.YtbhpfkjfijdmaaaGreatDoorZy11
namespace Go.Proofs.YtbhpfkjfijdmaaaGreatDoor
open Go.ChangeShapes Go.WideShapes Go.ChangeAt Go.RowKit
set_option linter.unusedVariables false
set_option maxRecDepth 100000
set_option maxHeartbeats 3200000
section
variable {F : Fx} {W : World} {M M' : Mach} {tk : Tk}
theorem Mach.fit.of {M M':Mach} (h:M.fit) (hok:M'.ok) (hl:M'.mrom=M.mrom/\M'.arom=M.arom/\M'.ram.length=M.ram.length/\M'.own.length=M.own.length/\M'.video.length=M.video.length) (hw:M'.s.w=M.s.w) (hb:M'.b.l=M.b.l/\M'.b.a=M.b.a/\M'.b.f=M.b.f) (hc:M'.clock=M.clock/\M'.mready=M.mready) (ha:M'.aready=M.aready \/ M'.aready=M.clock):M'.fit:=by
 obtain ⟨l1,l2,l3,l4,l5⟩:=hl
 obtain ⟨b1,b2,b3⟩:=hb
 obtain ⟨c1,c2⟩:=hc
 refine ⟨hok,?_,?_,?_,?_,?_,?_,?_,?_,?_,?_⟩
 ·rw [l1];exact h.mrom
 ·rw [l2];exact h.arom
 ·rw [l3];exact h.ram
 ·rw [l4];exact h.own
 ·rw [l5];exact h.video
 ·rw [hw];exact h.w
 ·rw [b1,b2,b3];exact h.b
 ·rw [c1];exact h.clock
 ·rw [c1,c2];exact h.mready
 ·rw [c1]
  have:=h.clock
  rcases ha with e | e
  ·rw [e];exact h.aready
  ·rw [e];omega
theorem hiB_bd {w b:Int} (hw:bd16 w) (hb:0<=b/\b<=255):bd16 (hiB w b):=by unfold bd16 hiB at *;omega
theorem loB_bd {w b:Int} (hw:bd16 w) (hb:0<=b/\b<=255):bd16 (loB w b):=by unfold bd16 loB at *;omega
theorem keep_far {W:World} {b o x i:Nat} {v u:Value} (hne:x ≠ b) (h:W.cell? ⟨x,i,none⟩=some u):(W.setCell ⟨b,o,none⟩ v).drew.cell? ⟨x,i,none⟩=some u:=(World.cell?_of_block (w:=W) (heap_set_far (o:=o) (v:=v) hne)).trans h
theorem Bu.high_w (h:Bd F W M tk) (x o:Nat) (cur n:Int) (hx:F.has x (pt F.g o)) (hc:(F.cells M tk)[o]? = some (.int .u16 cur)) (hcur:bd16 cur) (hn:0<=n/\n<=255) (ho:o < 209)
 (hs:(F.cells M tk).set o (.int .u16 (hiB cur n))=F.cells M' tk) (hm:M'.mrom=M.mrom/\M'.arom=M.arom/\M'.ram=M.ram/\M'.own=M.own/\M'.video=M.video) (hf:M'.fit) :
 Calls Tryz.prog 163 #[.int .u8 n,pt x 0] W fun e w'=>e = .returned (.tuple #[])/\Bd F w' M' tk/\Bt F W w':=by
 have c1:=h.at o _ hc
 have f1:=h.bx.f o
 have hg:=h.bx.z
 obtain ⟨z1,e1⟩:=h.env _ _ hx
 have hne:x ≠ F.g:=fun e=>h.nd.env _ _ hx (Or.inl e)
 have H:=hid h
 have HS:=hid hs
 have HM:=hid hm
 clear h hs hm
 go_enter Tryz.func163,Tryz.ntmps163
 go_wp2_with (go_at_call 109;refine (Lnbytes_any cur _ hcur).mono ?_;rintro e w1 ⟨rfl,rfl⟩)
 go_region_held3 (fun w'=>w'.cell? ⟨x,0,none⟩=some (pt F.g o))
  ((first | (with_reducible exact keep_far hne e1) | (go_keep;done)))
  ((go_at_call 133;refine (Lnof_any n (cur % 256) _ hn (by omega)).mono ?_;rintro e w1 ⟨rfl,rfl⟩))
 go_wp2
 go_end0
 exact ⟨rfl,(H.out.put o _ ho HS.out HM.out hf).drew,((Bt.refl _ _).set H.out.nd _ _).drew⟩
theorem Bu.low_w (h:Bd F W M tk) (x o:Nat) (cur n:Int) (hx:F.has x (pt F.g o)) (hc:(F.cells M tk)[o]? = some (.int .u16 cur)) (hcur:bd16 cur) (hn:0<=n/\n<=255) (ho:o < 209)
 (hs:(F.cells M tk).set o (.int .u16 (loB cur n))=F.cells M' tk) (hm:M'.mrom=M.mrom/\M'.arom=M.arom/\M'.ram=M.ram/\M'.own=M.own/\M'.video=M.video) (hf:M'.fit) :
 Calls Tryz.prog 164 #[.int .u8 n,pt x 0] W fun e w'=>e = .returned (.tuple #[])/\Bd F w' M' tk/\Bt F W w':=by
 have c1:=h.at o _ hc
 have f1:=h.bx.f o
 have hg:=h.bx.z
 obtain ⟨z1,e1⟩:=h.env _ _ hx
 have hne:x ≠ F.g:=fun e=>h.nd.env _ _ hx (Or.inl e)
 have H:=hid h
 have HS:=hid hs
 have HM:=hid hm
 clear h hs hm
 go_enter Tryz.func164,Tryz.ntmps164
 go_wp2_with (go_at_call 109;refine (Lnbytes_any cur _ hcur).mono ?_;rintro e w1 ⟨rfl,rfl⟩)
 go_region_held3 (fun w'=>w'.cell? ⟨x,0,none⟩=some (pt F.g o))
  ((first | (with_reducible exact keep_far hne e1) | (go_keep;done)))
  ((go_at_call 133;refine (Lnof_any (cur / 256) n _ (by unfold bd16 at hcur;omega) hn).mono ?_;rintro e w1 ⟨rfl,rfl⟩))
 go_wp2
 go_end0
 exact ⟨rfl,(H.out.put o _ ho HS.out HM.out hf).drew,((Bt.refl _ _).set H.out.nd _ _).drew⟩
theorem Bu.beam_w (h:Bd F W M tk) (n:Int):Calls Tryz.prog 123 #[pt F.g 0,.int .u8 n] W fun e w'=>e = .returned (.tuple #[])/\Bd F w' (M.putM 8 n) tk/\Bt F W w':=by
 have c2:=h.at 63 (.bool M.b.g) rfl
 have c3:=h.bx.f 63
 have hg:=h.bx.z
 have H:=hid h
 clear h
 go_enter Tryz.func123,Tryz.ntmps123
 go_wp2
 go_end0
 exact ⟨rfl,H.out.put 63 _ (by omega) rfl ⟨rfl,rfl,rfl,rfl,rfl⟩ { H.out.fit with main:=H.out.fit.main },(Bt.refl _ _).set H.out.nd _ _⟩
theorem Bu.mail_w (h:Bd F W M tk) (n:Int) (hn:0<=n/\n<=255):Calls Tryz.prog 128 #[pt F.g 0,.int .u8 n] W fun e w'=>e = .returned (.tuple #[])/\Bd F w' (M.putM 17 n) tk/\Bt F W w':=by
 have c2:=h.at 71 (.bool M.rung) rfl
 have c3:=h.bx.f 71
 have c4:=h.at 69 (.int .u8 M.m0) rfl
 have c5:=h.bx.f 69
 have hg:=h.bx.z
 have H:=hid h
 clear h
 go_enter Tryz.func128,Tryz.ntmps128
 go_wp2
 go_end0
 have hq:Mach.fit { M with m0:=n }:={ H.out.fit with main:=H.out.fit.main,m0:=hn }
 exact ⟨rfl,(H.out.put (M':={ M with m0:=n }) (tk':=tk) 69 _ (by omega) rfl ⟨rfl,rfl,rfl,rfl,rfl⟩ hq).put 71 _ (by omega) rfl ⟨rfl,rfl,rfl,rfl,rfl⟩ { hq with main:=hq.main },((Bt.refl _ _).set H.out.nd _ _).set H.out.nd _ _⟩
theorem Bu.mail_a (h:Bd F W M tk) (n:Int) (hn:0<=n/\n<=255):Calls Tryz.prog 130 #[.int .u8 n,pt F.E.ab 0] W fun e w'=>e = .returned (.tuple #[])/\Bd F w' { M with m1:=n } tk/\Bt F W w':=by
 have c2:=h.at 70 (.int .u8 M.m1) rfl
 have c3:=h.bx.f 70
 have hg:=h.bx.z
 obtain ⟨z1,e1⟩:=h.env _ _ .ab
 have H:=hid h
 clear h
 go_enter Tryz.func130,Tryz.ntmps130
 go_wp2
 go_end0
 exact ⟨rfl,H.out.put 70 _ (by omega) rfl ⟨rfl,rfl,rfl,rfl,rfl⟩ { H.out.fit with main:=H.out.fit.main,m1:=hn },(Bt.refl _ _).set H.out.nd _ _⟩
end
section
variable {F : Fx} {W : World} {M M' : Mach} {tk : Tk}
theorem Pd.next_ok {p:Pd} (h:p.ok):p.next.ok:=by
 obtain ⟨hd,hs⟩:=h
 refine ⟨hd,?_⟩
 unfold Pd.next
 refine sel_ind (P:=fun x=>0<=x/\x<=255) p.l hs ?_
 omega
theorem Pd.wr_ok {p:Pd} (h:p.ok) (x:Int):(p.wr x).ok:=by
 obtain ⟨hd,hs⟩:=h
 refine ⟨hd,?_⟩
 unfold Pd.wr
 exact sel_ind (P:=fun x=>0<=x/\x<=255) _ hd hs
theorem lt_new {W w1:World} {o:Obj} (hb:Below ((W.alloc o).drew).heap.size (W.alloc o).drew w1):W.heap.size < w1.heap.size:=Nat.lt_of_lt_of_le (by simp) hb.size
theorem lt_old {W w0 w1:World} {g:Nat} (hg:g < W.heap.size) (hb:Below w0.heap.size w0 w1) (h:W.heap.size<=w0.heap.size):g < w1.heap.size:=Nat.lt_of_lt_of_le hg (Nat.le_trans h hb.size)
structure PdC (F : Fx) (W : World) (M : Mach) (tk : Tk) (b : Nat) (p : Pd) (wx : World) : Prop where
 bd:Bd F wx M tk
 bt:Bt F W wx
 bx:Bx wx b [.int .u8 p.d,.bool p.l,.int .u8 p.s]
 ne:b ≠ F.g
theorem PdC.mkA {w1:World} {p:Pd} (h:Bd F W M tk) (hb:Below W.drew.heap.size W.drew w1):PdC F W M tk w1.heap.size p (w1.alloc (.cells #[.int .u8 p.d,.bool p.l,.int .u8 p.s] 28)):=by
 have hB:Below W.heap.size W w1:=stp (st0 W).drew hb
 have hz:=Nat.lt_of_lt_of_le h.bx.z hB.size
 exact ⟨(h.kept hB).over _,Bt.kept (Bt.refl F W) h.big (stA hB _),Bx.new w1 [.int .u8 p.d,.bool p.l,.int .u8 p.s] _ rfl,by omega⟩
theorem PdC.mkB {w1:World} {p:Pd} (h:Bd F W M tk) {x y z:Value} (hb:Below ((W.alloc (.cells #[x,y,z] 28)).drew).heap.size (W.alloc (.cells #[x,y,z] 28)).drew w1) :
 PdC F W M tk W.heap.size p (((w1.setCell ⟨W.heap.size,0,none⟩ (.int .u8 p.d)).setCell ⟨W.heap.size,1,none⟩ (.bool p.l)).setCell ⟨W.heap.size,2,none⟩ (.int .u8 p.s)):=by
 have hB:Below W.heap.size W w1:=stp (stA (st0 W) _).drew hb
 have hB2:Below W.heap.size W (((w1.setCell ⟨W.heap.size,0,none⟩ (.int .u8 p.d)).setCell ⟨W.heap.size,1,none⟩ (.bool p.l)).setCell ⟨W.heap.size,2,none⟩ (.int .u8 p.s)):=((hB.setCell (Nat.le_refl _) _).setCell (Nat.le_refl _) _).setCell (Nat.le_refl _) _
 have hx:=((Bx.new W [x,y,z] 28 rfl).drew.kept hb).puts 0 [.int .u8 p.d,.bool p.l,.int .u8 p.s] (by simp)
 have:=h.bx.z
 exact ⟨h.kept hB2,Bt.kept (Bt.refl F W) h.big hB2,hx,by omega⟩
theorem PdC.all {wx:World} {b:Nat} {p:Pd} (h:PdC F W M tk b p wx):wx.cell? ⟨b,0,none⟩=some (.int .u8 p.d)/\wx.cell? ⟨b,1,none⟩=some (.bool p.l)/\wx.cell? ⟨b,2,none⟩=some (.int .u8 p.s):=⟨h.bx.at 0 _ rfl,h.bx.at 1 _ rfl,h.bx.at 2 _ rfl⟩
theorem Bu.pad0_r (h:Bd F W M tk):Calls Tryz.prog 160 #[pt F.E.q0 0,pt F.E.w0 0] W fun e w'=>e = .returned (.int .u8 (M.portM 0).1)/\Bd F w' (M.portM 0).2 tk/\Bt F W w':=by
 have c0:=h.at 35 (.int .u8 M.p0.d) rfl
 have c1:=h.at 36 (.bool M.p0.l) rfl
 have c2:=h.at 37 (.int .u8 M.p0.s) rfl
 have hg:=h.bx.z
 obtain ⟨y1,e1⟩:=h.env _ _ .q0
 obtain ⟨y2,e2⟩:=h.env _ _ .w0
 have hp:=h.fit.p0
 have H:=hid h
 clear h
 go_enter Tryz.func160,Tryz.ntmps160
 go_upto_region 1 with fail
 go_cut [0,1,3,4] (fun v0 v1 v3 v4 wx=>v0=pt F.E.q0 0/\v1=pt F.E.w0 0/\v3 = .int .u8 M.p0.rd /\ ∃ b,v4=pt b 0/\PdC F W M tk b M.p0.next wx)
 case first =>
  go_region_with (go_at_call 161;refine (read_pad _ _ _ _ hp.d hp.s).mono ?_;rintro e w1 ⟨rfl,hb1⟩;obtain ⟨k1,f1⟩:=bcell hb1;try (have z1:=lt_new hb1);have z2:F.g < w1.heap.size:=lt_old hg hb1 (by simp))
  all_goals (go_wp2_with fail;go_meet)
  all_goals refine ⟨rfl,rfl,rfl,_,rfl,?_⟩
  all_goals first
   | exact PdC.mkB H.out hb1
   | exact PdC.mkA H.out hb1
 case rest =>
  obtain ⟨rfl,rfl,rfl,b,rfl,hC⟩:=hcut
  obtain ⟨d0,d1,d2⟩:=hC.all
  have c0:=hC.bd.at 35 (.int .u8 M.p0.d) rfl
  have c1:=hC.bd.at 36 (.bool M.p0.l) rfl
  have c2:=hC.bd.at 37 (.int .u8 M.p0.s) rfl
  have f0:=hC.bd.bx.f
  have hg:=hC.bd.bx.z
  have hbz:=hC.bx.z
  obtain ⟨y1,e1⟩:=hC.bd.env _ _ .q0
  obtain ⟨y2,e2⟩:=hC.bd.env _ _ .w0
  have HC:=hid hC
  clear hC
  go_wp2
  go_region_with fail
  all_goals go_wp2
  all_goals go_ret
  all_goals
   refine ⟨rfl,?_,?_⟩
   ·exact HC.out.bd.drew.puts (M':={ M with p0:=M.p0.next }) (tk':=tk) 35 [.int .u8 M.p0.next.d,.bool M.p0.next.l,.int .u8 M.p0.next.s] (by simp) rfl ⟨rfl,rfl,rfl,rfl,rfl⟩ { HC.out.bd.fit with main:=HC.out.bd.fit.main,p0:=Pd.next_ok HC.out.bd.fit.p0 }
   ·exact Bt.sets HC.out.bd.nd [.int .u8 M.p0.next.d,.bool M.p0.next.l,.int .u8 M.p0.next.s] 35 _ HC.out.bt.drew
end
section
variable {F : Fx} {W : World} {M M' : Mach} {tk : Tk}
theorem Bu.pad1_r (h:Bd F W M tk):Calls Tryz.prog 160 #[pt F.E.q1 0,pt F.E.w1 0] W fun e w'=>e = .returned (.int .u8 (M.portM 1).1)/\Bd F w' (M.portM 1).2 tk/\Bt F W w':=by
 have c0:=h.at 38 (.int .u8 M.p1.d) rfl
 have c1:=h.at 39 (.bool M.p1.l) rfl
 have c2:=h.at 40 (.int .u8 M.p1.s) rfl
 have hg:=h.bx.z
 obtain ⟨y1,e1⟩:=h.env _ _ .q1
 obtain ⟨y2,e2⟩:=h.env _ _ .w1
 have hp:=h.fit.p1
 have H:=hid h
 clear h
 go_enter Tryz.func160,Tryz.ntmps160
 go_upto_region 1 with fail
 go_cut [0,1,3,4] (fun v0 v1 v3 v4 wx=>v0=pt F.E.q1 0/\v1=pt F.E.w1 0/\v3 = .int .u8 M.p1.rd /\ ∃ b,v4=pt b 0/\PdC F W M tk b M.p1.next wx)
 case first =>
  go_region_with (go_at_call 161;refine (read_pad _ _ _ _ hp.d hp.s).mono ?_;rintro e w1 ⟨rfl,hb1⟩;obtain ⟨k1,f1⟩:=bcell hb1;try (have z1:=lt_new hb1);have z2:F.g < w1.heap.size:=lt_old hg hb1 (by simp))
  all_goals (go_wp2_with fail;go_meet)
  all_goals refine ⟨rfl,rfl,rfl,_,rfl,?_⟩
  all_goals first
   | exact PdC.mkB H.out hb1
   | exact PdC.mkA H.out hb1
 case rest =>
  obtain ⟨rfl,rfl,rfl,b,rfl,hC⟩:=hcut
  obtain ⟨d0,d1,d2⟩:=hC.all
  have c0:=hC.bd.at 38 (.int .u8 M.p1.d) rfl
  have c1:=hC.bd.at 39 (.bool M.p1.l) rfl
  have c2:=hC.bd.at 40 (.int .u8 M.p1.s) rfl
  have f0:=hC.bd.bx.f
  have hg:=hC.bd.bx.z
  have hbz:=hC.bx.z
  obtain ⟨y1,e1⟩:=hC.bd.env _ _ .q1
  obtain ⟨y2,e2⟩:=hC.bd.env _ _ .w1
  have HC:=hid hC
  clear hC
  go_wp2
  go_region_with fail
  all_goals go_wp2
  all_goals go_ret
  all_goals
   refine ⟨rfl,?_,?_⟩
   ·exact HC.out.bd.drew.puts (M':={ M with p1:=M.p1.next }) (tk':=tk) 38 [.int .u8 M.p1.next.d,.bool M.p1.next.l,.int .u8 M.p1.next.s] (by simp) rfl ⟨rfl,rfl,rfl,rfl,rfl⟩ { HC.out.bd.fit with main:=HC.out.bd.fit.main,p1:=Pd.next_ok HC.out.bd.fit.p1 }
   ·exact Bt.sets HC.out.bd.nd [.int .u8 M.p1.next.d,.bool M.p1.next.l,.int .u8 M.p1.next.s] 38 _ HC.out.bt.drew
end
section
variable {F : Fx} {W : World} {M M' : Mach} {tk tk' : Tk}
theorem eq_g (n:Nat) (a b:Array Value) (w:World):(binOp .eql 126 (.func (.func n) a b) .nilFunc).run Tryz.prog w = .ok (.bool false) w:=by kernel_rfl
theorem eq_gn (w:World):(binOp .eql 126 .nilFunc .nilFunc).run Tryz.prog w = .ok (.bool true) w:=by kernel_rfl
theorem Bu.get_nil (vw:Value) (h:Bd F W M tk):Calls Tryz.prog 135 #[.agg #[.nilFunc,vw]] W fun e w'=>e = .returned (.int .u8 255)/\Bd F w' M tk/\Bt F W w':=by
 have hn:=eq_gn
 have H:=hid h
 clear h
 go_enter Tryz.func135,Tryz.ntmps135
 go_wp2
 go_ret
 exact ⟨rfl,H.out.over _,Mv.of_below H.out.big (stA (st0 _) _)⟩
theorem Bu.get_rt (vw:Value) (x:Int) (h:Bd F W M tk) (hc:∀ W,Bd F W M tk->Calls Tryz.prog 118 #[pt F.g 0] W fun e w'=>e = .returned (.int .u8 x)/\Bd F w' M' tk/\Bt F W w') :
 Calls Tryz.prog 135 #[.agg #[mval 118 F.g 0,vw]] W fun e w'=>e = .returned (.int .u8 x)/\Bd F w' M' tk/\Bt F W w':=by
 have hn:∀ w:World,(binOp .eql 126 (mval 118 F.g 0) .nilFunc).run Tryz.prog w = .ok (.bool false) w:=fun w=>eq_g _ _ _ w
 have H:=hid h
 have HC:=hid hc
 clear h hc
 go_enter Tryz.func135,Tryz.ntmps135
 go_wp2_with (go_at_call 118;refine (HC.out _ (H.out.over _)).mono ?_;rintro e w1 ⟨rfl,hB,hT⟩)
 go_ret
 exact ⟨rfl,hB,Mv.trans (Mv.of_below H.out.big (stA (st0 _) _)) hT⟩
theorem Bu.get_rb (vw:Value) (x:Int) (h:Bd F W M tk) (hc:∀ W,Bd F W M tk->Calls Tryz.prog 122 #[pt F.g 0] W fun e w'=>e = .returned (.int .u8 x)/\Bd F w' M' tk/\Bt F W w') :
 Calls Tryz.prog 135 #[.agg #[mval 122 F.g 0,vw]] W fun e w'=>e = .returned (.int .u8 x)/\Bd F w' M' tk/\Bt F W w':=by
 have hn:∀ w:World,(binOp .eql 126 (mval 122 F.g 0) .nilFunc).run Tryz.prog w = .ok (.bool false) w:=fun w=>eq_g _ _ _ w
 have H:=hid h
 have HC:=hid hc
 clear h hc
 go_enter Tryz.func135,Tryz.ntmps135
 go_wp2_with (go_at_call 122;refine (HC.out _ (H.out.over _)).mono ?_;rintro e w1 ⟨rfl,hB,hT⟩)
 go_ret
 exact ⟨rfl,hB,Mv.trans (Mv.of_below H.out.big (stA (st0 _) _)) hT⟩
theorem Bu.get_ra (vw:Value) (x:Int) (h:Bd F W M tk) (hc:∀ W,Bd F W M tk->Calls Tryz.prog 125 #[pt F.g 0] W fun e w'=>e = .returned (.int .u8 x)/\Bd F w' M' tk/\Bt F W w') :
 Calls Tryz.prog 135 #[.agg #[mval 125 F.g 0,vw]] W fun e w'=>e = .returned (.int .u8 x)/\Bd F w' M' tk/\Bt F W w':=by
 have hn:∀ w:World,(binOp .eql 126 (mval 125 F.g 0) .nilFunc).run Tryz.prog w = .ok (.bool false) w:=fun w=>eq_g _ _ _ w
 have H:=hid h
 have HC:=hid hc
 clear h hc
 go_enter Tryz.func135,Tryz.ntmps135
 go_wp2_with (go_at_call 125;refine (HC.out _ (H.out.over _)).mono ?_;rintro e w1 ⟨rfl,hB,hT⟩)
 go_ret
 exact ⟨rfl,hB,Mv.trans (Mv.of_below H.out.big (stA (st0 _) _)) hT⟩
theorem Bu.get_tm (vw:Value) (x:Int) (h:Bd F W M tk) (hc:∀ W,Bd F W M tk->Calls Tryz.prog 129 #[pt F.g 0] W fun e w'=>e = .returned (.int .u8 x)/\Bd F w' M' tk/\Bt F W w') :
 Calls Tryz.prog 135 #[.agg #[mval 129 F.g 0,vw]] W fun e w'=>e = .returned (.int .u8 x)/\Bd F w' M' tk/\Bt F W w':=by
 have hn:∀ w:World,(binOp .eql 126 (mval 129 F.g 0) .nilFunc).run Tryz.prog w = .ok (.bool false) w:=fun w=>eq_g _ _ _ w
 have H:=hid h
 have HC:=hid hc
 clear h hc
 go_enter Tryz.func135,Tryz.ntmps135
 go_wp2_with (go_at_call 129;refine (HC.out _ (H.out.over _)).mono ?_;rintro e w1 ⟨rfl,hB,hT⟩)
 go_ret
 exact ⟨rfl,hB,Mv.trans (Mv.of_below H.out.big (stA (st0 _) _)) hT⟩
theorem Bu.get_m1 (vw:Value) (x:Int) (h:Bd F W M tk) (hc:∀ W,Bd F W M tk->Calls Tryz.prog 120 #[pt F.E.mb 0] W fun e w'=>e = .returned (.int .u8 x)/\Bd F w' M' tk/\Bt F W w') :
 Calls Tryz.prog 135 #[.agg #[fval 120 #[pt F.E.mb 0],vw]] W fun e w'=>e = .returned (.int .u8 x)/\Bd F w' M' tk/\Bt F W w':=by
 have hn:∀ w:World,(binOp .eql 126 (fval 120 #[pt F.E.mb 0]) .nilFunc).run Tryz.prog w = .ok (.bool false) w:=fun w=>eq_g _ _ _ w
 have H:=hid h
 have HC:=hid hc
 clear h hc
 go_enter Tryz.func135,Tryz.ntmps135
 go_wp2_with (go_at_call 120;refine (HC.out _ (H.out.over _)).mono ?_;rintro e w1 ⟨rfl,hB,hT⟩)
 go_ret
 exact ⟨rfl,hB,Mv.trans (Mv.of_below H.out.big (stA (st0 _) _)) hT⟩
theorem Bu.get_m2 (vw:Value) (x:Int) (h:Bd F W M tk) (hc:∀ W,Bd F W M tk->Calls Tryz.prog 121 #[pt F.E.mb 0] W fun e w'=>e = .returned (.int .u8 x)/\Bd F w' M' tk/\Bt F W w') :
 Calls Tryz.prog 135 #[.agg #[fval 121 #[pt F.E.mb 0],vw]] W fun e w'=>e = .returned (.int .u8 x)/\Bd F w' M' tk/\Bt F W w':=by
 have hn:∀ w:World,(binOp .eql 126 (fval 121 #[pt F.E.mb 0]) .nilFunc).run Tryz.prog w = .ok (.bool false) w:=fun w=>eq_g _ _ _ w
 have H:=hid h
 have HC:=hid hc
 clear h hc
 go_enter Tryz.func135,Tryz.ntmps135
 go_wp2_with (go_at_call 121;refine (HC.out _ (H.out.over _)).mono ?_;rintro e w1 ⟨rfl,hB,hT⟩)
 go_ret
 exact ⟨rfl,hB,Mv.trans (Mv.of_below H.out.big (stA (st0 _) _)) hT⟩
theorem Bu.get_m3 (vw:Value) (x:Int) (h:Bd F W M tk) (hc:∀ W,Bd F W M tk->Calls Tryz.prog 127 #[pt F.E.mb 0] W fun e w'=>e = .returned (.int .u8 x)/\Bd F w' M' tk/\Bt F W w') :
 Calls Tryz.prog 135 #[.agg #[fval 127 #[pt F.E.mb 0],vw]] W fun e w'=>e = .returned (.int .u8 x)/\Bd F w' M' tk/\Bt F W w':=by
 have hn:∀ w:World,(binOp .eql 126 (fval 127 #[pt F.E.mb 0]) .nilFunc).run Tryz.prog w = .ok (.bool false) w:=fun w=>eq_g _ _ _ w
 have H:=hid h
 have HC:=hid hc
 clear h hc
 go_enter Tryz.func135,Tryz.ntmps135
 go_wp2_with (go_at_call 127;refine (HC.out _ (H.out.over _)).mono ?_;rintro e w1 ⟨rfl,hB,hT⟩)
 go_ret
 exact ⟨rfl,hB,Mv.trans (Mv.of_below H.out.big (stA (st0 _) _)) hT⟩
theorem Bu.get_pr (vw:Value) (x:Int) (q v:Nat) (h:Bd F W M tk) (hc:∀ W,Bd F W M tk->Calls Tryz.prog 160 #[pt q 0,pt v 0] W fun e w'=>e = .returned (.int .u8 x)/\Bd F w' M' tk/\Bt F W w') :
 Calls Tryz.prog 135 #[.agg #[fval 160 #[pt q 0,pt v 0],vw]] W fun e w'=>e = .returned (.int .u8 x)/\Bd F w' M' tk/\Bt F W w':=by
 have hn:∀ w:World,(binOp .eql 126 (fval 160 #[pt q 0,pt v 0]) .nilFunc).run Tryz.prog w = .ok (.bool false) w:=fun w=>eq_g _ _ _ w
 have H:=hid h
 have HC:=hid hc
 clear h hc
 go_enter Tryz.func135,Tryz.ntmps135
 go_wp2_with (go_at_call 160;refine (HC.out _ (H.out.over _)).mono ?_;rintro e w1 ⟨rfl,hB,hT⟩)
 go_ret
 exact ⟨rfl,hB,Mv.trans (Mv.of_below H.out.big (stA (st0 _) _)) hT⟩
theorem getM_all (i:Nat) (hi:i < 32):GetM F M tk i:=by
 intro W h
 have hc:i=0 \/ i=1 \/ i=2 \/ i=3 \/ i=4 \/ i=5 \/ i=6 \/ i=7 \/ i=8 \/ i=9 \/ i=10 \/ i=11 \/ i=12 \/ i=13 \/ i=14 \/ i=15 \/ i=16 \/ i=17 \/ i=18 \/ i=19 \/ i=20 \/ i=21 \/ i=22 \/ i=23 \/ i=24 \/ i=25 \/ i=26 \/ i=27 \/ i=28 \/ i=29 \/ i=30 \/ i=31:=by omega
 rcases hc with rfl | rfl | rfl | rfl | rfl | rfl | rfl | rfl | rfl | rfl | rfl | rfl | rfl | rfl | rfl | rfl | rfl | rfl | rfl | rfl | rfl | rfl | rfl | rfl | rfl | rfl | rfl | rfl | rfl | rfl | rfl | rfl
 ·exact Bu.get_pr _ _ _ _ h (fun W h=>Bu.pad0_r h)
 ·exact Bu.get_pr _ _ _ _ h (fun W h=>Bu.pad1_r h)
 ·exact Bu.get_nil _ h
 ·exact Bu.get_nil _ h
 ·exact Bu.get_rt _ _ h (fun W h=>Bu.timer_r h)
 ·exact Bu.get_nil _ h
 ·exact Bu.get_m1 _ _ h (fun W h=>Bu.line_r h)
 ·exact Bu.get_m2 _ _ h (fun W h=>Bu.at_r h)
 ·exact Bu.get_rb _ _ h (fun W h=>Bu.beam_r h)
 ·exact Bu.get_nil _ h
 ·exact Bu.get_nil _ h
 ·exact Bu.get_nil _ h
 ·exact Bu.get_nil _ h
 ·exact Bu.get_nil _ h
 ·exact Bu.get_nil _ h
 ·exact Bu.get_nil _ h
 ·exact Bu.get_ra _ _ h (fun W h=>Bu.aux_r h)
 ·exact Bu.get_m3 _ _ h (fun W h=>Bu.mail_r h)
 ·exact Bu.get_nil _ h
 ·exact Bu.get_nil _ h
 ·exact Bu.get_nil _ h
 ·exact Bu.get_nil _ h
 ·exact Bu.get_nil _ h
 ·exact Bu.get_nil _ h
 ·exact Bu.get_nil _ h
 ·exact Bu.get_nil _ h
 ·exact Bu.get_nil _ h
 ·exact Bu.get_nil _ h
 ·exact Bu.get_nil _ h
 ·exact Bu.get_nil _ h
 ·exact Bu.get_nil _ h
 ·exact Bu.get_nil _ h
theorem getA_all (i:Nat) (hi:i < 32):GetA F M tk i:=by
 intro W h
 unfold Fx.rdA Mach.portA
 by_cases e:i=24
 ·rw [if_pos e,if_pos e]
  exact Bu.get_tm _ _ h (fun W h=>Bu.take_r h)
 ·rw [if_neg e,if_neg e]
  exact Bu.get_nil _ h
end
theorem tick1_any (r c:Int) (g:Bool) (w:World) (hc:0<=c/\c<=65535) :
 Calls Tryz.prog 89 #[.agg #[.int .u16 r,.int .u16 c,.bool true,.bool g]] w fun e w'=>e = .returned (.agg #[.int .u16 r,.int .u16 (tkC r c true),.bool true,.bool (tkG c true g)])/\Below w.heap.size w w':=by
 by_cases h:c=0
 ·subst h
  go_enter Tryz.func89,Tryz.ntmps89
  go_wp2
  refine bodyPost_ret (v:=.agg _) (by simp [results,Tryz.results89,go_sem,tkC,tkG]) rfl ⟨rfl,?_⟩
  exact (stA (stA (st0 _) _) _)
 ·have hb:(c == 0)=false:=by simpa using h
  have H:=hid h
  clear h
  go_enter Tryz.func89,Tryz.ntmps89
  go_wp2
  have e:tkC r c true=c - 1:=by unfold tkC;simp [H.out]
  have e0:=H.out
  have e3:IntKind.u16.wrap (c - 1)=c - 1:=by rw [IntKind.wrap_u16];omega
  have e2:tkG c true g=g:=by unfold tkG;simp [H.out]
  rw [e,e2]
  refine bodyPost_ret (v:=.agg _) (by simp [results,Tryz.results89,go_sem,e3]) rfl ⟨rfl,?_⟩
  exact (stA (stA (st0 _) _) _)
theorem set1_any (r c:Int) (on g:Bool) (w:World) :
 Calls Tryz.prog 198 #[.agg #[.int .u16 r,.int .u16 c,.bool on,.bool g]] w fun e w'=>e = .returned (.agg #[.int .u16 r,.int .u16 r,.bool on,.bool g])/\Below w.heap.size w w':=by
 go_enter Tryz.func198,Tryz.ntmps198
 go_wp2
 refine bodyPost_ret (v:=.agg _) (by simp [results,Tryz.results198,go_sem];try rfl) rfl ⟨rfl,?_⟩
 exact (stA (stA (st0 _) _) _)
theorem resT {w w1:World} {o:Obj} (hb1:Below ((w.alloc o).alloc (.cells #[.int .u16 0,.int .u16 0,.bool false,.bool false] 31)).heap.size ((w.alloc o).alloc (.cells #[.int .u16 0,.int .u16 0,.bool false,.bool false] 31)) w1) :
 w1.there (w.heap.size+1) 0 4/\Below w.heap.size w w1:=by
 refine ⟨Pl.there_old (Pl.there_new (w.alloc o) #[.int .u16 0,.int .u16 0,.bool false,.bool false] 31 4 (w.heap.size+1) (by simp) rfl) hb1 (by simp),stp (stA (stA (st0 w) _) _) hb1⟩
theorem fin4 {w U:World} (r c:Int) (on g:Bool) (ht:U.there (w.heap.size+1) 0 4) (hB:Below w.heap.size w U) :
 Below w.heap.size w ((((U.setCell ⟨w.heap.size+1,0,none⟩ (.int .u16 r)).setCell ⟨w.heap.size+1,1,none⟩ (.int .u16 c)).setCell ⟨w.heap.size+1,2,none⟩ (.bool on)).setCell ⟨w.heap.size+1,3,none⟩ (.bool g)) /\
  ((((U.setCell ⟨w.heap.size+1,0,none⟩ (.int .u16 r)).setCell ⟨w.heap.size+1,1,none⟩ (.int .u16 c)).setCell ⟨w.heap.size+1,2,none⟩ (.bool on)).setCell ⟨w.heap.size+1,3,none⟩ (.bool g)).rangeAt (w.heap.size+1) 0 [.int .u16 r,.int .u16 c,.bool on,.bool g]:=by
 have h:=World.rangeAt_setCells_same U (w.heap.size+1) 0 [.int .u16 r,.int .u16 c,.bool on,.bool g] ht
 have h2:=Pl.below (Nat.le_succ w.heap.size) [.int .u16 r,.int .u16 c,.bool on,.bool g] 0 U hB
 simp only [World.setCells,Nat.zero_add,Nat.reduceAdd] at h h2
 exact ⟨h2,h⟩
/-! ### whenOn -/
theorem when_off (r c:Int) (g:Bool) (f:Value) (w:World) :
 Calls Tryz.prog 88 #[.agg #[.int .u16 r,.int .u16 c,.bool false,.bool g],f] w fun e w'=>e = .returned (.agg #[.int .u16 r,.int .u16 c,.bool false,.bool g])/\Below w.heap.size w w':=by
 go_enter Tryz.func88,Tryz.ntmps88
 go_wp2
 refine bodyPost_ret (v:=.agg _) (by simp [results,Tryz.results88,go_sem]) rfl ⟨rfl,?_⟩
 exact (stA (stA (st0 _) _) _)
theorem when_tick (r c:Int) (g:Bool) (w:World) (hc:0<=c/\c<=65535) :
 Calls Tryz.prog 88 #[.agg #[.int .u16 r,.int .u16 c,.bool true,.bool g],.func (.func 89) #[] #[]] w fun e w'=>e = .returned (.agg #[.int .u16 r,.int .u16 (tkC r c true),.bool true,.bool (tkG c true g)])/\Below w.heap.size w w':=by
 go_enter Tryz.func88,Tryz.ntmps88
 go_wp2_with (go_at_call 89;refine (tick1_any _ _ _ _ hc).mono ?_;rintro e w1 ⟨rfl,hb1⟩;obtain ⟨k1,f1⟩:=bcell hb1;have z1:w.heap.size+1 < w1.heap.size:=Nat.lt_of_lt_of_le (by simp) hb1.size)
 have hF:=fin4 r (tkC r c true) true (tkG c true g) (resT hb1).1 (resT hb1).2
 refine Pl.cutB (fun Y=>Below w.heap.size w Y/\Y.rangeAt (w.heap.size+1) 0 [.int .u16 r,.int .u16 (tkC r c true),.bool true,.bool (tkG c true g)]) hF ?_
 rintro Y ⟨hY,hR⟩
 exact bodyPost_ret (v:=.agg _) (by simp only [results,Tryz.results88];simp;exact Pl.res (load_timer _ _ _ _ _ _ hR)) rfl ⟨rfl,hY⟩
theorem when_set (r c:Int) (g:Bool) (w:World) :
 Calls Tryz.prog 88 #[.agg #[.int .u16 r,.int .u16 c,.bool true,.bool g],.func (.func 198) #[] #[]] w fun e w'=>e = .returned (.agg #[.int .u16 r,.int .u16 r,.bool true,.bool g])/\Below w.heap.size w w':=by
 go_enter Tryz.func88,Tryz.ntmps88
 go_wp2_with (go_at_call 198;refine (set1_any _ _ _ _ _).mono ?_;rintro e w1 ⟨rfl,hb1⟩;obtain ⟨k1,f1⟩:=bcell hb1;have z1:w.heap.size+1 < w1.heap.size:=Nat.lt_of_lt_of_le (by simp) hb1.size)
 have hF:=fin4 r r true g (resT hb1).1 (resT hb1).2
 refine Pl.cutB (fun Y=>Below w.heap.size w Y/\Y.rangeAt (w.heap.size+1) 0 [.int .u16 r,.int .u16 r,.bool true,.bool g]) hF ?_
 rintro Y ⟨hY,hR⟩
 exact bodyPost_ret (v:=.agg _) (by simp only [results,Tryz.results88];simp;exact Pl.res (load_timer _ _ _ _ _ _ hR)) rfl ⟨rfl,hY⟩
/-! ### Set, Tick, Run -/
theorem Tm.tick_any (r c:Int) (on g:Bool) (w:World) (hc:0<=c/\c<=65535) :
 Calls Tryz.prog 54 #[.agg #[.int .u16 r,.int .u16 c,.bool on,.bool g]] w fun e w'=>e = .returned (.agg #[.int .u16 r,.int .u16 (tkC r c on),.bool on,.bool (tkG c on g)])/\Below w.heap.size w w':=by
 cases on
 ·go_enter Tryz.func54,Tryz.ntmps54
  go_wp2_with (go_at_call 88;refine (when_off _ _ _ _ _).mono ?_;rintro e w1 ⟨rfl,hb1⟩;obtain ⟨k1,f1⟩:=bcell hb1;have z1:w.heap.size+1 < w1.heap.size:=Nat.lt_of_lt_of_le (by simp) hb1.size)
  have hF:=fin4 r c false g (resT hb1).1 (resT hb1).2
  refine Pl.cutB (fun Y=>Below w.heap.size w Y/\Y.rangeAt (w.heap.size+1) 0 [.int .u16 r,.int .u16 c,.bool false,.bool g]) hF ?_
  rintro Y ⟨hY,hR⟩
  exact bodyPost_ret (v:=.agg _) (by simp only [results,Tryz.results54];simp;exact Pl.res (load_timer _ _ _ _ _ _ hR)) rfl ⟨rfl,hY⟩
 ·go_enter Tryz.func54,Tryz.ntmps54
  go_wp2_with (go_at_call 88;refine (when_tick _ _ _ _ hc).mono ?_;rintro e w1 ⟨rfl,hb1⟩;obtain ⟨k1,f1⟩:=bcell hb1;have z1:w.heap.size+1 < w1.heap.size:=Nat.lt_of_lt_of_le (by simp) hb1.size)
  have hF:=fin4 r (tkC r c true) true (tkG c true g) (resT hb1).1 (resT hb1).2
  refine Pl.cutB (fun Y=>Below w.heap.size w Y/\Y.rangeAt (w.heap.size+1) 0 [.int .u16 r,.int .u16 (tkC r c true),.bool true,.bool (tkG c true g)]) hF ?_
  rintro Y ⟨hY,hR⟩
  exact bodyPost_ret (v:=.agg _) (by simp only [results,Tryz.results54];simp;exact Pl.res (load_timer _ _ _ _ _ _ hR)) rfl ⟨rfl,hY⟩
theorem set_any (r c:Int) (o0 on g:Bool) (w:World) :
 Calls Tryz.prog 166 #[.agg #[.int .u16 r,.int .u16 c,.bool o0,.bool g],.bool on] w fun e w'=>e = .returned (.agg #[.int .u16 r,.int .u16 (sel on r c),.bool on,.bool g])/\Below w.heap.size w w':=by
 cases on
 ·go_enter Tryz.func166,Tryz.ntmps166
  go_wp2_with (go_at_call 88;refine (when_off _ _ _ _ _).mono ?_;rintro e w1 ⟨rfl,hb1⟩;obtain ⟨k1,f1⟩:=bcell hb1;have z1:w.heap.size+1 < w1.heap.size:=Nat.lt_of_lt_of_le (by simp) hb1.size)
  have hF:=fin4 r c false g (resT hb1).1 (resT hb1).2
  refine Pl.cutB (fun Y=>Below w.heap.size w Y/\Y.rangeAt (w.heap.size+1) 0 [.int .u16 r,.int .u16 c,.bool false,.bool g]) hF ?_
  rintro Y ⟨hY,hR⟩
  exact bodyPost_ret (v:=.agg _) (by simp only [results,Tryz.results166];simp;exact Pl.res (load_timer _ _ _ _ _ _ hR)) rfl ⟨rfl,hY⟩
 ·go_enter Tryz.func166,Tryz.ntmps166
  go_wp2_with (go_at_call 88;refine (when_set _ _ _ _).mono ?_;rintro e w1 ⟨rfl,hb1⟩;obtain ⟨k1,f1⟩:=bcell hb1;have z1:w.heap.size+1 < w1.heap.size:=Nat.lt_of_lt_of_le (by simp) hb1.size)
  have hF:=fin4 r r true g (resT hb1).1 (resT hb1).2
  refine Pl.cutB (fun Y=>Below w.heap.size w Y/\Y.rangeAt (w.heap.size+1) 0 [.int .u16 r,.int .u16 r,.bool true,.bool g]) hF ?_
  rintro Y ⟨hY,hR⟩
  exact bodyPost_ret (v:=.agg _) (by simp only [results,Tryz.results166];simp;exact Pl.res (load_timer _ _ _ _ _ _ hR)) rfl ⟨rfl,hY⟩
section
variable {F : Fx} {W : World} {M M' : Mach} {tk : Tk}
theorem and_two:∀ s:Nat,s < 256->bits .and .u8 (s:Int) 2=((s:Int) / 2 % 2) * 2:=by decide +kernel
theorem and_two' (s:Int) (h:0<=s/\s<=255):bits .and .u8 s 2=s / 2 % 2 * 2:=by
 obtain ⟨k,rfl⟩:=Int.eq_ofNat_of_zero_le h.1
 exact and_two k (by omega)
theorem odd_cases (x:Int):(x % 2=0/\odd x=false) \/ (x % 2=1/\odd x=true):=by
 unfold odd
 rcases (by omega:x % 2=0 \/ x % 2=1) with h | h
 ·exact Or.inl ⟨h,by rw [h];rfl⟩
 ·exact Or.inr ⟨h,by rw [h];rfl⟩
theorem sel_bd {l:Bool} {a b:Int} (ha:bd16 a) (hb:bd16 b):bd16 (sel l a b):=sel_ind (P:=bd16) l ha hb
theorem TM.put_bd {t:TM} (n:Int) (h1:bd16 t.r) (h2:bd16 t.c):bd16 (t.put n).r/\bd16 (t.put n).c:=⟨h1,sel_bd h1 h2⟩
theorem Bu.timer_w (h:Bd F W M tk) (n:Int) (hn:0<=n/\n<=255):Calls Tryz.prog 119 #[pt F.g 0,.int .u8 n] W fun e w'=>e = .returned (.tuple #[])/\Bd F w' (M.putM 4 n) tk/\Bt F W w':=by
 have c0:=h.at 41 (.int .u16 M.t.r) rfl
 have c1:=h.at 42 (.int .u16 M.t.c) rfl
 have c2:=h.at 43 (.bool M.t.on) rfl
 have c3:=h.at 44 (.bool M.t.g) rfl
 have ff:=h.bx.f
 have hg:=h.bx.z
 have H:=hid h
 have hk:=TM.put_bd (t:=M.t) n h.fit.tr h.fit.tc
 have a1:=and_one' n hn
 have a2:=and_two' n hn
 have e0:M.putM 4 n={ M with t:=M.t.put n }:=rfl
 rw [e0]
 have hf:Mach.fit { M with t:=M.t.put n }:={ H.out.fit with main:=H.out.fit.main,tr:=hk.1,tc:=hk.2 }
 have HF:=hid hf
 clear h hf e0
 rcases odd_cases n with ⟨p,q⟩ | ⟨p,q⟩
 all_goals
  rw [p] at a1
  rcases odd_cases (n / 2) with ⟨r,s⟩ | ⟨r,s⟩
 all_goals
  rw [r] at a2
  have HQ:=hid q
  have HS:=hid s
  clear p q r s
 ·go_enter Tryz.func119,Tryz.ntmps119
  go_wp2_with (go_at_call 166;refine (set_any _ _ _ _ _ _).mono ?_;rintro e w1 ⟨rfl,hb1⟩;obtain ⟨k1,f1⟩:=bcell hb1;have z2:F.g < w1.heap.size:=lt_old hg hb1 (by simp))
  go_end0
  refine ⟨rfl,?_,?_⟩
  ·exact (H.out.kept hb1).puts (M':={ M with t:=M.t.put n }) (tk':=tk) 41 [.int .u16 M.t.r,.int .u16 (sel false M.t.r M.t.c),.bool false,.bool M.t.g] (by simp) (by unfold TM.put;rw [HQ.out,HS.out];rfl) ⟨rfl,rfl,rfl,rfl,rfl⟩ HF.out
  ·exact Bt.sets H.out.nd [.int .u16 M.t.r,.int .u16 (sel false M.t.r M.t.c),.bool false,.bool M.t.g] 41 _ (Bt.kept (Bt.refl F W) H.out.big hb1)
 ·go_enter Tryz.func119,Tryz.ntmps119
  go_wp2_with (go_at_call 166;refine (set_any _ _ _ _ _ _).mono ?_;rintro e w1 ⟨rfl,hb1⟩;obtain ⟨k1,f1⟩:=bcell hb1;have z2:F.g < w1.heap.size:=lt_old hg hb1 (by simp))
  go_end0
  refine ⟨rfl,?_,?_⟩
  ·exact ((H.out.kept hb1).puts (M':={ M with t:=⟨M.t.r,sel false M.t.r M.t.c,false,M.t.g⟩ }) (tk':=tk) 41 [.int .u16 M.t.r,.int .u16 (sel false M.t.r M.t.c),.bool false,.bool M.t.g] (by simp) rfl ⟨rfl,rfl,rfl,rfl,rfl⟩ { H.out.fit with main:=H.out.fit.main,tr:=H.out.fit.tr,tc:=sel_bd (l:=false) (a:=M.t.r) (b:=M.t.c) H.out.fit.tr H.out.fit.tc }).put 44 (.bool false) (by omega) (by unfold TM.put;rw [HQ.out,HS.out];rfl) ⟨rfl,rfl,rfl,rfl,rfl⟩ HF.out
  ·exact Bt.set H.out.nd (Bt.sets H.out.nd [.int .u16 M.t.r,.int .u16 (sel false M.t.r M.t.c),.bool false,.bool M.t.g] 41 _ (Bt.kept (Bt.refl F W) H.out.big hb1)) 44 _
 ·go_enter Tryz.func119,Tryz.ntmps119
  go_wp2_with (go_at_call 166;refine (set_any _ _ _ _ _ _).mono ?_;rintro e w1 ⟨rfl,hb1⟩;obtain ⟨k1,f1⟩:=bcell hb1;have z2:F.g < w1.heap.size:=lt_old hg hb1 (by simp))
  go_end0
  refine ⟨rfl,?_,?_⟩
  ·exact (H.out.kept hb1).puts (M':={ M with t:=M.t.put n }) (tk':=tk) 41 [.int .u16 M.t.r,.int .u16 (sel true M.t.r M.t.c),.bool true,.bool M.t.g] (by simp) (by unfold TM.put;rw [HQ.out,HS.out];rfl) ⟨rfl,rfl,rfl,rfl,rfl⟩ HF.out
  ·exact Bt.sets H.out.nd [.int .u16 M.t.r,.int .u16 (sel true M.t.r M.t.c),.bool true,.bool M.t.g] 41 _ (Bt.kept (Bt.refl F W) H.out.big hb1)
 ·go_enter Tryz.func119,Tryz.ntmps119
  go_wp2_with (go_at_call 166;refine (set_any _ _ _ _ _ _).mono ?_;rintro e w1 ⟨rfl,hb1⟩;obtain ⟨k1,f1⟩:=bcell hb1;have z2:F.g < w1.heap.size:=lt_old hg hb1 (by simp))
  go_end0
  refine ⟨rfl,?_,?_⟩
  ·exact ((H.out.kept hb1).puts (M':={ M with t:=⟨M.t.r,sel true M.t.r M.t.c,true,M.t.g⟩ }) (tk':=tk) 41 [.int .u16 M.t.r,.int .u16 (sel true M.t.r M.t.c),.bool true,.bool M.t.g] (by simp) rfl ⟨rfl,rfl,rfl,rfl,rfl⟩ { H.out.fit with main:=H.out.fit.main,tr:=H.out.fit.tr,tc:=sel_bd (l:=true) (a:=M.t.r) (b:=M.t.c) H.out.fit.tr H.out.fit.tc }).put 44 (.bool false) (by omega) (by unfold TM.put;rw [HQ.out,HS.out];rfl) ⟨rfl,rfl,rfl,rfl,rfl⟩ HF.out
  ·exact Bt.set H.out.nd (Bt.sets H.out.nd [.int .u16 M.t.r,.int .u16 (sel true M.t.r M.t.c),.bool true,.bool M.t.g] 41 _ (Bt.kept (Bt.refl F W) H.out.big hb1)) 44 _
end
section
variable {F : Fx} {W : World} {M M' : Mach} {tk : Tk}
theorem lookM_bd (M:Mach) (a:Int):0<=M.lookM a/\M.lookM a<=255:=by
 unfold Mach.lookM romAt
 split
 ·split
  ·exact bget_bd _ _
  ·omega
 ·split
  ·exact bget_bd _ _
  ·split
   ·exact bget_bd _ _
   ·omega
theorem xfer_rest (M:Mach) (k:Nat):(M.xfer k).fr=M.fr/\(M.xfer k).to=M.to/\(M.xfer k).mrom=M.mrom/\(M.xfer k).ram=M.ram/\(M.xfer k).video.length=M.video.length/\{ M.xfer k with video:=M.video }=M:=by
 induction k with
 | zero=>exact ⟨rfl,rfl,rfl,rfl,rfl,rfl⟩
 | succ k ih =>
  obtain ⟨h1,h2,h3,h4,h5,h6⟩:=ih
  exact ⟨h1,h2,h3,h4,by simp [Mach.xfer,bput_len,h5],h6⟩
theorem Bd.xf (h:Bd F W M tk) (cap:Nat) (hc:F.S.vi = .slice (some ⟨F.vi,0,none⟩) 256 cap):W.cell? ⟨F.g,34,none⟩=some (.slice (some ⟨F.vi,0,none⟩) 256 cap)/\W.cell? ⟨F.g,65,none⟩=some (.int .u16 M.fr)/\W.cell? ⟨F.g,66,none⟩=some (.int .u16 M.to) :=
 ⟨by rw [<- hc];exact h.at 34 _ rfl,h.at 65 _ rfl,h.at 66 _ rfl⟩
theorem xf_keep {a b c:Value} {o:Nat} {v:Value} (hne:F.g ≠ F.vi) (h:W.cell? ⟨F.g,34,none⟩=some a/\W.cell? ⟨F.g,65,none⟩=some b/\W.cell? ⟨F.g,66,none⟩=some c) :
 (W.setCell ⟨F.vi,o,none⟩ v).drew.cell? ⟨F.g,34,none⟩=some a/\(W.setCell ⟨F.vi,o,none⟩ v).drew.cell? ⟨F.g,65,none⟩=some b/\(W.setCell ⟨F.vi,o,none⟩ v).drew.cell? ⟨F.g,66,none⟩=some c :=
 ⟨keep_far hne h.1,keep_far hne h.2.1,keep_far hne h.2.2⟩
theorem Bu.xfer_w (h:Bd F W M tk) (n:Int) (hn:0<=n/\n<=255) (htk:0<=tk.n/\tk.n<=1000000000000):Calls Tryz.prog 124 #[pt F.g 0,.int .u8 n] W fun e w'=>e = .returned (.tuple #[])/\Bd F w' (M.putM 14 n) (tk.add (2 * n))/\Bt F W w':=by
 obtain ⟨cap,hcap,_,_⟩:=h.viV
 have HC:=hid hcap
 obtain ⟨N,rfl⟩:=Int.eq_ofNat_of_zero_le hn.1
 have hN:N<=255:=by omega
 have H:=hid h
 have hfr:=h.fit.fr
 have hto:=h.fit.to
 have hne:=h.nd.d.2.2.1
 clear h hcap
 go_enter Tryz.func124,Tryz.ntmps124
 go_wp2
 go_loopw [7] (fun i wr=>∃ k:Nat,k<=N/\i = .int .u16 k/\Bd F wr (M.xfer k) tk/\Bt F W wr) (fun i _=>N - (intOf i).toNat)
 case atStart=>exact ⟨0,by omega,rfl,H.out,Bt.refl _ _⟩
 case round =>
  obtain ⟨k,hk,rfl,hB,hT⟩:=hrel
  by_cases hlt:k < N
  ·have HB:=hid hB
   have HT:=hid hT
   obtain ⟨r1,r2,_,_,r5,_⟩:=xfer_rest M k
   obtain ⟨c1,c2,c3⟩:=hB.xf cap HC.out
   rw [r1] at c2
   rw [r2] at c3
   have hg:=hB.bx.z
   obtain ⟨v1,v2,v3⟩:=hB.viAt ((M.to+k) % 65536 % 256) (by omega) (by omega)
   have hlt2:(k:Int) < N:=by omega
   have hcell:∀ w:World,Calls Tryz.prog 113 #[.slice (some ⟨F.vi,0,none⟩) 256 cap,.int .u16 ((M.to+k) % 65536)] w fun e w'=>e = .returned (pt F.vi ((M.to+k) % 65536 % 256).toNat)/\w=w':=fun w=>Bu.cell_any F.vi 256 cap ((M.to+k) % 65536) w (by omega) (by omega) (by omega)
   have hput:=hid (HB.out.drew.putVideo ((M.to+k) % 65536 % 256) ((M.xfer k).lookM ((M.fr+k) % 65536)) (by omega) (by omega) (lookM_bd _ _))
   have hmv:=hid (Bt.setV HB.out.nd HT.out.drew ((M.to+k) % 65536 % 256).toNat (.int .u8 ((M.xfer k).lookM ((M.fr+k) % 65536))))
   clear hB hT
   have hlook:=hid (Bu.look_M HB.out.drew ((M.fr+k) % 65536) (by omega))
   generalize hj:((M.to+k) % 65536 % 256).toNat=j at *
   generalize hx:(M.xfer k).lookM ((M.fr+k) % 65536)=x at *
   have HCL:=hid hcell
   have HJ:=hid hj
   have HXX:=hid hx
   clear hj hx hcell
   go_wp2
   go_region_held3 (fun w'=>w'.cell? ⟨F.g,34,none⟩=some (.slice (some ⟨F.vi,0,none⟩) 256 cap)/\w'.cell? ⟨F.g,65,none⟩=some (.int .u16 M.fr)/\w'.cell? ⟨F.g,66,none⟩=some (.int .u16 M.to))
    ((first | (with_reducible exact ⟨c1,c2,c3⟩) | (with_reducible exact xf_keep hne ⟨c1,c2,c3⟩) | (go_keep;done)))
    ((first
      | (go_at_call 113;refine (HCL.out _).mono ?_;rintro e w1 ⟨rfl,rfl⟩)
      | (go_at_call 136;refine hlook.out.mono ?_;rintro e w1 ⟨rfl,rfl⟩)))
   go_wp2
   go_roundw
   case rel =>
    refine ⟨k+1,by omega,by go_num,?_,hmv.out⟩
    have hp:=hput.out
    rw [<- HXX.out] at hp
    rw [<- HXX.out]
    exact hp
   case measure=>simp [intOf];omega
  ·obtain rfl:k=N:=by omega
   have c1:=hB.at 75 (.int .i64 tk.n) rfl
   have f1:=hB.bx.f 75
   have hg:=hB.bx.z
   have HB:=hid hB
   have HT:=hid hT
   have e0:M.putM 14 (k:Int)=M.xfer k:=by show M.xfer (k:Int).toNat=_;rw [Int.toNat_natCast]
   have E0:=hid e0
   clear hB hT e0
   go_wp2
   go_end0
   rw [E0.out]
   exact ⟨rfl,HB.out.put 75 _ (by omega) rfl ⟨rfl,rfl,rfl,rfl,rfl⟩ HB.out.fit,HT.out.set HB.out.nd 75 _⟩
end
section
variable {F : Fx} {W : World} {M M' : Mach} {tk : Tk}
theorem Bu.fn_r (n:Nat) (a b:Array Value) (w:World):(binOp .eql 119 (.func (.func n) a b) .nilFunc).run Tryz.prog w = .ok (.bool false) w:=by kernel_rfl
abbrev reachV (g o:Nat):Value:=.agg #[mval 82 g o,mval 83 g o]
theorem Bu.main_any (g:Nat) (w:World):Calls Tryz.prog 47 #[pt g 0] w fun e w'=>e = .returned (reachV g 77)/\Below w.heap.size w w':=by
 go_enter Tryz.func47,Tryz.ntmps47
 go_wp2
 go_region_with fail
 all_goals go_wp2
 all_goals
  refine bodyPost_ret (v:=.agg _) (by simp [results,Tryz.results47,go_sem]) rfl ⟨rfl,?_⟩
  exact (stA (st0 _) _).drew
theorem Bu.aux_any (g:Nat) (w:World):Calls Tryz.prog 87 #[pt g 0] w fun e w'=>e = .returned (reachV g 143)/\Below w.heap.size w w':=by
 go_enter Tryz.func87,Tryz.ntmps87
 go_wp2
 go_region_with fail
 all_goals go_wp2
 all_goals
  refine bodyPost_ret (v:=.agg _) (by simp [results,Tryz.results87,go_sem]) rfl ⟨rfl,?_⟩
  exact (stA (st0 _) _).drew
def ReadsAt (F:Fx) (M:Mach) (tk:Tk) (o:Nat) (a x:Int):Prop:=∀ W,Bd F W M tk->Calls Tryz.prog 82 #[pt F.g o,.int .u16 a] W fun e w'=>e = .returned (.int .u8 x)/\Bd F w' M tk/\Bt F W w'
theorem Bu.byte_at (h:Bd F W M tk) (o:Nat) (a x:Int) (hr:ReadsAt F M tk o a x):Calls Tryz.prog 132 #[reachV F.g o,.int .u16 a] W fun e w'=>e = .returned (.int .u8 x)/\Bd F w' M tk/\Bt F W w':=by
 have hn:=Bu.fn_r 82 #[pt F.g o] #[]
 have H:=hid h
 clear h
 go_enter Tryz.func132,Tryz.ntmps132
 go_wp2_with (go_at_call 82;refine (hr _ (H.out.over _)).mono ?_;rintro e w1 ⟨rfl,hB1,hT1⟩)
 go_ret
 exact ⟨rfl,hB1,Mv.trans (Mv.of_below H.out.big (stA (st0 _) _)) hT1⟩
end
end Go.Proofs.YtbhpfkjfijdmaaaGreatDoor
