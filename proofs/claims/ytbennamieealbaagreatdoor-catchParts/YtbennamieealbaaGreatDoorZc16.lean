/-
  Parts of a proof, joined.
-/
import Derived.Test.YtbennamieealbaaGreatDoorZc15
import Derived.Deep.RegionWith
import Derived.Deep.DeepCutAuto
import Derived.Test.YtbennamieealbaaGreatDoorZc13
set_option linter.unusedVariables false
set_option maxRecDepth 100000
set_option maxHeartbeats 1600000
namespace Go.Proofs.YtbennamieealbaaGreatDoor
open Go.ChangeShapes Go.WideShapes Go.ChangeAt Go.RowKit
section
variable {F : Fx} {W : World} {M M' : Mach} {tk : Tk}
theorem Mach.fit.of {M M':Mach} (h:M.fit) (hok:M'.ok) (hl:M'.mrom=M.mrom/\M'.arom=M.arom/\M'.ram.length=M.ram.length/\M'.own.length=M.own.length/\M'.video.length=M.video.length) (hw:M'.s.w=M.s.w) (hb:M'.b.l=M.b.l/\M'.b.a=M.b.a/\M'.b.f=M.b.f) (hc:M'.clock=M.clock/\M'.mready=M.mready) (ha:M'.aready=M.aready \/ M'.aready=M.clock):M'.fit:=by
 obtain ⟨l1,l2,l3,l4,l5⟩:=hl
 obtain ⟨b1,b2,b3⟩:=hb
 obtain ⟨c1,c2⟩:=hc
 refine ⟨hok,?_,?_,?_,?_,?_,?_,?_,?_,?_,?_⟩
 ·rw [l1];exact h.mrom
 ·rw [l2];exact h.arom
 ·rw [l3];exact h.ram
 ·rw [l4];exact h.own
 ·rw [l5];exact h.video
 ·rw [hw];exact h.w
 ·rw [b1,b2,b3];exact h.b
 ·rw [c1];exact h.clock
 ·rw [c1,c2];exact h.mready
 ·rw [c1]
  have:=h.clock
  rcases ha with e|e
  ·rw [e];exact h.aready
  ·rw [e];omega
theorem zlF {w b:Int} (hw:bd16 w) (hb:0<=b/\b<=255):bd16 (hiB w b):=by unfold bd16 hiB at *;omega
theorem zlG {w b:Int} (hw:bd16 w) (hb:0<=b/\b<=255):bd16 (loB w b):=by unfold bd16 loB at *;omega
theorem zcO {W:World} {b o x i:Nat} {v u:Value} (hne:x≠b) (h:W.cell? ⟨x,i,none⟩=some u):(W.setCell ⟨b,o,none⟩ v).drew.cell? ⟨x,i,none⟩=some u:=(World.cell?_of_block (w:=W) (zab (o:=o) (v:=v) hne)).trans h
theorem zdV (h:Bd F W M tk) (x o:Nat) (cur n:Int) (hx:F.has x (pt F.g o)) (hc:(F.cells M tk)[o]? = some (.int .u16 cur)) (hcur:bd16 cur) (hn:0<=n/\n<=255) (ho:o<209)
 (hs:(F.cells M tk).set o (.int .u16 (hiB cur n))=F.cells M' tk) (hm:M'.mrom=M.mrom/\M'.arom=M.arom/\M'.ram=M.ram/\M'.own=M.own/\M'.video=M.video) (hf:M'.fit) :
 Calls Tryz.prog 218 #[.int .u8 n,pt x 0] W λe w'=>e = .returned (.tuple #[])/\Bd F w' M' tk/\Bt F W w':=by
 have c1:=h.at o _ hc
 have f1:=h.bx.f o
 have hg:=h.bx.z
 obtain ⟨z1,e1⟩:=h.env _ _ hx
 have hne:x≠F.g:=λe=>h.nd.env _ _ hx (Or.inl e)
 have H:=hid h
 have HS:=hid hs
 have HM:=hid hm
 clear h hs hm
 go_enter Tryz.func218,Tryz.ntmps218
 go_wp2_with (go_at_call 159;refine (zbS cur _ hcur).mono ?_;rintro e w1 ⟨rfl,rfl⟩)
 go_region_held3 (λw'=>w'.cell? ⟨x,0,none⟩=some (pt F.g o))
  ((first|(with_reducible exact zcO hne e1)|(go_keep;done)))
  ((go_at_call 181;refine (zcK n (cur%256) _ hn (by omega)).mono ?_;rintro e w1 ⟨rfl,rfl⟩))
 go_wp2
 go_end0
 exact ⟨rfl,(H.out.put o _ ho HS.out HM.out hf).drew,((Bt.refl _ _).set H.out.nd _ _).drew⟩
theorem zgf (h:Bd F W M tk) (x o:Nat) (cur n:Int) (hx:F.has x (pt F.g o)) (hc:(F.cells M tk)[o]? = some (.int .u16 cur)) (hcur:bd16 cur) (hn:0<=n/\n<=255) (ho:o<209)
 (hs:(F.cells M tk).set o (.int .u16 (loB cur n))=F.cells M' tk) (hm:M'.mrom=M.mrom/\M'.arom=M.arom/\M'.ram=M.ram/\M'.own=M.own/\M'.video=M.video) (hf:M'.fit) :
 Calls Tryz.prog 219 #[.int .u8 n,pt x 0] W λe w'=>e = .returned (.tuple #[])/\Bd F w' M' tk/\Bt F W w':=by
 have c1:=h.at o _ hc
 have f1:=h.bx.f o
 have hg:=h.bx.z
 obtain ⟨z1,e1⟩:=h.env _ _ hx
 have hne:x≠F.g:=λe=>h.nd.env _ _ hx (Or.inl e)
 have H:=hid h
 have HS:=hid hs
 have HM:=hid hm
 clear h hs hm
 go_enter Tryz.func219,Tryz.ntmps219
 go_wp2_with (go_at_call 159;refine (zbS cur _ hcur).mono ?_;rintro e w1 ⟨rfl,rfl⟩)
 go_region_held3 (λw'=>w'.cell? ⟨x,0,none⟩=some (pt F.g o))
  ((first|(with_reducible exact zcO hne e1)|(go_keep;done)))
  ((go_at_call 181;refine (zcK (cur/256) n _ (by unfold bd16 at hcur;omega) hn).mono ?_;rintro e w1 ⟨rfl,rfl⟩))
 go_wp2
 go_end0
 exact ⟨rfl,(H.out.put o _ ho HS.out HM.out hf).drew,((Bt.refl _ _).set H.out.nd _ _).drew⟩
theorem zlH (h:Bd F W M tk) (n:Int):Calls Tryz.prog 171 #[pt F.g 0,.int .u8 n] W λe w'=>e = .returned (.tuple #[])/\Bd F w' (M.putM 8 n) tk/\Bt F W w':=by
 have c2:=h.at 63 (.bool M.b.g) rfl
 have c3:=h.bx.f 63
 have hg:=h.bx.z
 have H:=hid h
 clear h
 go_enter Tryz.func171,Tryz.ntmps171
 go_wp2
 go_end0
 exact ⟨rfl,H.out.put 63 _ (by omega) rfl ⟨rfl,rfl,rfl,rfl,rfl⟩ { H.out.fit with main:=H.out.fit.main },(Bt.refl _ _).set H.out.nd _ _⟩
theorem zlI (h:Bd F W M tk) (n:Int) (hn:0<=n/\n<=255):Calls Tryz.prog 176 #[pt F.g 0,.int .u8 n] W λe w'=>e = .returned (.tuple #[])/\Bd F w' (M.putM 17 n) tk/\Bt F W w':=by
 have c2:=h.at 71 (.bool M.rung) rfl
 have c3:=h.bx.f 71
 have c4:=h.at 69 (.int .u8 M.m0) rfl
 have c5:=h.bx.f 69
 have hg:=h.bx.z
 have H:=hid h
 clear h
 go_enter Tryz.func176,Tryz.ntmps176
 go_wp2
 go_end0
 have hq:Mach.fit { M with m0:=n }:={ H.out.fit with main:=H.out.fit.main,m0:=hn }
 exact ⟨rfl,(H.out.put (M':={ M with m0:=n }) (tk':=tk) 69 _ (by omega) rfl ⟨rfl,rfl,rfl,rfl,rfl⟩ hq).put 71 _ (by omega) rfl ⟨rfl,rfl,rfl,rfl,rfl⟩ { hq with main:=hq.main },((Bt.refl _ _).set H.out.nd _ _).set H.out.nd _ _⟩
theorem zlJ (h:Bd F W M tk) (n:Int) (hn:0<=n/\n<=255):Calls Tryz.prog 178 #[.int .u8 n,pt F.E.ab 0] W λe w'=>e = .returned (.tuple #[])/\Bd F w' { M with m1:=n } tk/\Bt F W w':=by
 have c2:=h.at 70 (.int .u8 M.m1) rfl
 have c3:=h.bx.f 70
 have hg:=h.bx.z
 obtain ⟨z1,e1⟩:=h.env _ _ .ab
 have H:=hid h
 clear h
 go_enter Tryz.func178,Tryz.ntmps178
 go_wp2
 go_end0
 exact ⟨rfl,H.out.put 70 _ (by omega) rfl ⟨rfl,rfl,rfl,rfl,rfl⟩ { H.out.fit with main:=H.out.fit.main,m1:=hn },(Bt.refl _ _).set H.out.nd _ _⟩
end
section
variable {F : Fx} {W : World} {M M' : Mach} {tk : Tk}
theorem Pd.next_ok {p:Pd} (h:p.ok):p.next.ok:=by
 obtain ⟨hd,hs⟩:=h
 refine ⟨hd,?_⟩
 unfold Pd.next
 refine zig (P:=λx=>0<=x/\x<=255) p.l hs ?_
 omega
theorem Pd.wr_ok {p:Pd} (h:p.ok) (x:Int):(p.wr x).ok:=by
 obtain ⟨hd,hs⟩:=h
 refine ⟨hd,?_⟩
 unfold Pd.wr
 exact zig (P:=λx=>0<=x/\x<=255) _ hd hs
theorem zpC {W w1:World} {o:Obj} (hb:Below ((W.alloc o).drew).heap.size (W.alloc o).drew w1):W.heap.size<w1.heap.size:=Nat.lt_of_lt_of_le (by simp) hb.size
theorem zdl {W w0 w1:World} {g:Nat} (hg:g<W.heap.size) (hb:Below w0.heap.size w0 w1) (h:W.heap.size<=w0.heap.size):g<w1.heap.size:=Nat.lt_of_lt_of_le hg (Nat.le_trans h hb.size)
structure PdC (F : Fx) (W : World) (M : Mach) (tk : Tk) (b : Nat) (p : Pd) (wx : World) : Prop where
 bd:Bd F wx M tk
 bt:Bt F W wx
 bx:Bx wx b [.int .u8 p.d,.bool p.l,.int .u8 p.s]
 ne:b≠F.g
theorem PdC.mkA {w1:World} {p:Pd} (h:Bd F W M tk) (hb:Below W.drew.heap.size W.drew w1):PdC F W M tk w1.heap.size p (w1.alloc (.cells #[.int .u8 p.d,.bool p.l,.int .u8 p.s] 28)):=by
 have hB:Below W.heap.size W w1:=stp (st0 W).drew hb
 have hz:=Nat.lt_of_lt_of_le h.bx.z hB.size
 exact ⟨(h.kept hB).over _,Bt.kept (Bt.refl F W) h.big (stA hB _),Bx.new w1 [.int .u8 p.d,.bool p.l,.int .u8 p.s] _ rfl,by omega⟩
theorem PdC.mkB {w1:World} {p:Pd} (h:Bd F W M tk) {x y z:Value} (hb:Below ((W.alloc (.cells #[x,y,z] 28)).drew).heap.size (W.alloc (.cells #[x,y,z] 28)).drew w1) :
 PdC F W M tk W.heap.size p (((w1.setCell ⟨W.heap.size,0,none⟩ (.int .u8 p.d)).setCell ⟨W.heap.size,1,none⟩ (.bool p.l)).setCell ⟨W.heap.size,2,none⟩ (.int .u8 p.s)):=by
 have hB:Below W.heap.size W w1:=stp (stA (st0 W) _).drew hb
 have hB2:Below W.heap.size W (((w1.setCell ⟨W.heap.size,0,none⟩ (.int .u8 p.d)).setCell ⟨W.heap.size,1,none⟩ (.bool p.l)).setCell ⟨W.heap.size,2,none⟩ (.int .u8 p.s)):=((hB.setCell (Nat.le_refl _) _).setCell (Nat.le_refl _) _).setCell (Nat.le_refl _) _
 have hx:=((Bx.new W [x,y,z] 28 rfl).drew.kept hb).puts 0 [.int .u8 p.d,.bool p.l,.int .u8 p.s] (by simp)
 have:=h.bx.z
 exact ⟨h.kept hB2,Bt.kept (Bt.refl F W) h.big hB2,hx,by omega⟩
theorem PdC.all {wx:World} {b:Nat} {p:Pd} (h:PdC F W M tk b p wx):wx.cell? ⟨b,0,none⟩=some (.int .u8 p.d)/\wx.cell? ⟨b,1,none⟩=some (.bool p.l)/\wx.cell? ⟨b,2,none⟩=some (.int .u8 p.s):=⟨h.bx.at 0 _ rfl,h.bx.at 1 _ rfl,h.bx.at 2 _ rfl⟩
theorem zlK (h:Bd F W M tk):Calls Tryz.prog 215 #[pt F.E.q0 0,pt F.E.w0 0] W λe w'=>e = .returned (.int .u8 (M.portM 0).1)/\Bd F w' (M.portM 0).2 tk/\Bt F W w':=by
 have c0:=h.at 35 (.int .u8 M.p0.d) rfl
 have c1:=h.at 36 (.bool M.p0.l) rfl
 have c2:=h.at 37 (.int .u8 M.p0.s) rfl
 have hg:=h.bx.z
 obtain ⟨y1,e1⟩:=h.env _ _ .q0
 obtain ⟨y2,e2⟩:=h.env _ _ .w0
 have hp:=h.fit.p0
 have H:=hid h
 clear h
 go_enter Tryz.func215,Tryz.ntmps215
 go_upto_region 1 with fail
 go_cut [0,1,3,4] (λv0 v1 v3 v4 wx=>v0=pt F.E.q0 0/\v1=pt F.E.w0 0/\v3 = .int .u8 M.p0.rd /\ ∃ b,v4=pt b 0/\PdC F W M tk b M.p0.next wx)
 case first =>
  go_region_with (go_at_call 216;refine (zi5 _ _ _ _ hp.d hp.s).mono ?_;rintro e w1 ⟨rfl,hb1⟩;obtain ⟨k1,f1⟩:=bcell hb1;try (have z1:=zpC hb1);have z2:F.g<w1.heap.size:=zdl hg hb1 (by simp))
  all_goals (go_wp2_with fail;go_meet)
  all_goals refine ⟨rfl,rfl,rfl,_,rfl,?_⟩
  all_goals first
   | exact PdC.mkB H.out hb1
   | exact PdC.mkA H.out hb1
 case rest =>
  obtain ⟨rfl,rfl,rfl,b,rfl,hC⟩:=hcut
  obtain ⟨d0,d1,d2⟩:=hC.all
  have c0:=hC.bd.at 35 (.int .u8 M.p0.d) rfl
  have c1:=hC.bd.at 36 (.bool M.p0.l) rfl
  have c2:=hC.bd.at 37 (.int .u8 M.p0.s) rfl
  have f0:=hC.bd.bx.f
  have hg:=hC.bd.bx.z
  have hbz:=hC.bx.z
  obtain ⟨y1,e1⟩:=hC.bd.env _ _ .q0
  obtain ⟨y2,e2⟩:=hC.bd.env _ _ .w0
  have HC:=hid hC
  clear hC
  go_wp2
  go_region_with fail
  all_goals go_wp2
  all_goals go_ret
  all_goals
   refine ⟨rfl,?_,?_⟩
   ·exact HC.out.bd.drew.puts (M':={ M with p0:=M.p0.next }) (tk':=tk) 35 [.int .u8 M.p0.next.d,.bool M.p0.next.l,.int .u8 M.p0.next.s] (by simp) rfl ⟨rfl,rfl,rfl,rfl,rfl⟩ { HC.out.bd.fit with main:=HC.out.bd.fit.main,p0:=Pd.next_ok HC.out.bd.fit.p0 }
   ·exact Bt.sets HC.out.bd.nd [.int .u8 M.p0.next.d,.bool M.p0.next.l,.int .u8 M.p0.next.s] 35 _ HC.out.bt.drew
end
section
variable {F : Fx} {W : World} {M M' : Mach} {tk : Tk}
theorem zlL (h:Bd F W M tk):Calls Tryz.prog 215 #[pt F.E.q1 0,pt F.E.w1 0] W λe w'=>e = .returned (.int .u8 (M.portM 1).1)/\Bd F w' (M.portM 1).2 tk/\Bt F W w':=by
 have c0:=h.at 38 (.int .u8 M.p1.d) rfl
 have c1:=h.at 39 (.bool M.p1.l) rfl
 have c2:=h.at 40 (.int .u8 M.p1.s) rfl
 have hg:=h.bx.z
 obtain ⟨y1,e1⟩:=h.env _ _ .q1
 obtain ⟨y2,e2⟩:=h.env _ _ .w1
 have hp:=h.fit.p1
 have H:=hid h
 clear h
 go_enter Tryz.func215,Tryz.ntmps215
 go_upto_region 1 with fail
 go_cut [0,1,3,4] (λv0 v1 v3 v4 wx=>v0=pt F.E.q1 0/\v1=pt F.E.w1 0/\v3 = .int .u8 M.p1.rd /\ ∃ b,v4=pt b 0/\PdC F W M tk b M.p1.next wx)
 case first =>
  go_region_with (go_at_call 216;refine (zi5 _ _ _ _ hp.d hp.s).mono ?_;rintro e w1 ⟨rfl,hb1⟩;obtain ⟨k1,f1⟩:=bcell hb1;try (have z1:=zpC hb1);have z2:F.g<w1.heap.size:=zdl hg hb1 (by simp))
  all_goals (go_wp2_with fail;go_meet)
  all_goals refine ⟨rfl,rfl,rfl,_,rfl,?_⟩
  all_goals first
   | exact PdC.mkB H.out hb1
   | exact PdC.mkA H.out hb1
 case rest =>
  obtain ⟨rfl,rfl,rfl,b,rfl,hC⟩:=hcut
  obtain ⟨d0,d1,d2⟩:=hC.all
  have c0:=hC.bd.at 38 (.int .u8 M.p1.d) rfl
  have c1:=hC.bd.at 39 (.bool M.p1.l) rfl
  have c2:=hC.bd.at 40 (.int .u8 M.p1.s) rfl
  have f0:=hC.bd.bx.f
  have hg:=hC.bd.bx.z
  have hbz:=hC.bx.z
  obtain ⟨y1,e1⟩:=hC.bd.env _ _ .q1
  obtain ⟨y2,e2⟩:=hC.bd.env _ _ .w1
  have HC:=hid hC
  clear hC
  go_wp2
  go_region_with fail
  all_goals go_wp2
  all_goals go_ret
  all_goals
   refine ⟨rfl,?_,?_⟩
   ·exact HC.out.bd.drew.puts (M':={ M with p1:=M.p1.next }) (tk':=tk) 38 [.int .u8 M.p1.next.d,.bool M.p1.next.l,.int .u8 M.p1.next.s] (by simp) rfl ⟨rfl,rfl,rfl,rfl,rfl⟩ { HC.out.bd.fit with main:=HC.out.bd.fit.main,p1:=Pd.next_ok HC.out.bd.fit.p1 }
   ·exact Bt.sets HC.out.bd.nd [.int .u8 M.p1.next.d,.bool M.p1.next.l,.int .u8 M.p1.next.s] 38 _ HC.out.bt.drew
end
section
variable {F : Fx} {W : World} {M M' : Mach} {tk tk' : Tk}
theorem eq_g (n:Nat) (a b:Array Value) (w:World):(binOp .eql 126 (.func (.func n) a b) .nilFunc).run Tryz.prog w = .ok (.bool false) w:=by kernel_rfl
theorem eq_gn (w:World):(binOp .eql 126 .nilFunc .nilFunc).run Tryz.prog w = .ok (.bool true) w:=by kernel_rfl
theorem zak (vw:Value) (h:Bd F W M tk):Calls Tryz.prog 183 #[.agg #[.nilFunc,vw]] W λe w'=>e = .returned (.int .u8 255)/\Bd F w' M tk/\Bt F W w':=by
 have hn:=eq_gn
 have H:=hid h
 clear h
 go_enter Tryz.func183,Tryz.ntmps183
 go_wp2
 go_ret
 exact ⟨rfl,H.out.over _,Mv.of_below H.out.big (stA (st0 _) _)⟩
theorem zlM (vw:Value) (x:Int) (h:Bd F W M tk) (hc:∀ W,Bd F W M tk->Calls Tryz.prog 166 #[pt F.g 0] W λe w'=>e = .returned (.int .u8 x)/\Bd F w' M' tk/\Bt F W w') :
 Calls Tryz.prog 183 #[.agg #[mval 166 F.g 0,vw]] W λe w'=>e = .returned (.int .u8 x)/\Bd F w' M' tk/\Bt F W w':=by
 have hn:∀ w:World,(binOp .eql 126 (mval 166 F.g 0) .nilFunc).run Tryz.prog w = .ok (.bool false) w:=λw=>eq_g _ _ _ w
 have H:=hid h
 have HC:=hid hc
 clear h hc
 go_enter Tryz.func183,Tryz.ntmps183
 go_wp2_with (go_at_call 166;refine (HC.out _ (H.out.over _)).mono ?_;rintro e w1 ⟨rfl,hB,hT⟩)
 go_ret
 exact ⟨rfl,hB,Mv.trans (Mv.of_below H.out.big (stA (st0 _) _)) hT⟩
theorem zlN (vw:Value) (x:Int) (h:Bd F W M tk) (hc:∀ W,Bd F W M tk->Calls Tryz.prog 170 #[pt F.g 0] W λe w'=>e = .returned (.int .u8 x)/\Bd F w' M' tk/\Bt F W w') :
 Calls Tryz.prog 183 #[.agg #[mval 170 F.g 0,vw]] W λe w'=>e = .returned (.int .u8 x)/\Bd F w' M' tk/\Bt F W w':=by
 have hn:∀ w:World,(binOp .eql 126 (mval 170 F.g 0) .nilFunc).run Tryz.prog w = .ok (.bool false) w:=λw=>eq_g _ _ _ w
 have H:=hid h
 have HC:=hid hc
 clear h hc
 go_enter Tryz.func183,Tryz.ntmps183
 go_wp2_with (go_at_call 170;refine (HC.out _ (H.out.over _)).mono ?_;rintro e w1 ⟨rfl,hB,hT⟩)
 go_ret
 exact ⟨rfl,hB,Mv.trans (Mv.of_below H.out.big (stA (st0 _) _)) hT⟩
theorem zlO (vw:Value) (x:Int) (h:Bd F W M tk) (hc:∀ W,Bd F W M tk->Calls Tryz.prog 173 #[pt F.g 0] W λe w'=>e = .returned (.int .u8 x)/\Bd F w' M' tk/\Bt F W w') :
 Calls Tryz.prog 183 #[.agg #[mval 173 F.g 0,vw]] W λe w'=>e = .returned (.int .u8 x)/\Bd F w' M' tk/\Bt F W w':=by
 have hn:∀ w:World,(binOp .eql 126 (mval 173 F.g 0) .nilFunc).run Tryz.prog w = .ok (.bool false) w:=λw=>eq_g _ _ _ w
 have H:=hid h
 have HC:=hid hc
 clear h hc
 go_enter Tryz.func183,Tryz.ntmps183
 go_wp2_with (go_at_call 173;refine (HC.out _ (H.out.over _)).mono ?_;rintro e w1 ⟨rfl,hB,hT⟩)
 go_ret
 exact ⟨rfl,hB,Mv.trans (Mv.of_below H.out.big (stA (st0 _) _)) hT⟩
theorem zlP (vw:Value) (x:Int) (h:Bd F W M tk) (hc:∀ W,Bd F W M tk->Calls Tryz.prog 177 #[pt F.g 0] W λe w'=>e = .returned (.int .u8 x)/\Bd F w' M' tk/\Bt F W w') :
 Calls Tryz.prog 183 #[.agg #[mval 177 F.g 0,vw]] W λe w'=>e = .returned (.int .u8 x)/\Bd F w' M' tk/\Bt F W w':=by
 have hn:∀ w:World,(binOp .eql 126 (mval 177 F.g 0) .nilFunc).run Tryz.prog w = .ok (.bool false) w:=λw=>eq_g _ _ _ w
 have H:=hid h
 have HC:=hid hc
 clear h hc
 go_enter Tryz.func183,Tryz.ntmps183
 go_wp2_with (go_at_call 177;refine (HC.out _ (H.out.over _)).mono ?_;rintro e w1 ⟨rfl,hB,hT⟩)
 go_ret
 exact ⟨rfl,hB,Mv.trans (Mv.of_below H.out.big (stA (st0 _) _)) hT⟩
theorem zlQ (vw:Value) (x:Int) (h:Bd F W M tk) (hc:∀ W,Bd F W M tk->Calls Tryz.prog 168 #[pt F.E.mb 0] W λe w'=>e = .returned (.int .u8 x)/\Bd F w' M' tk/\Bt F W w') :
 Calls Tryz.prog 183 #[.agg #[fval 168 #[pt F.E.mb 0],vw]] W λe w'=>e = .returned (.int .u8 x)/\Bd F w' M' tk/\Bt F W w':=by
 have hn:∀ w:World,(binOp .eql 126 (fval 168 #[pt F.E.mb 0]) .nilFunc).run Tryz.prog w = .ok (.bool false) w:=λw=>eq_g _ _ _ w
 have H:=hid h
 have HC:=hid hc
 clear h hc
 go_enter Tryz.func183,Tryz.ntmps183
 go_wp2_with (go_at_call 168;refine (HC.out _ (H.out.over _)).mono ?_;rintro e w1 ⟨rfl,hB,hT⟩)
 go_ret
 exact ⟨rfl,hB,Mv.trans (Mv.of_below H.out.big (stA (st0 _) _)) hT⟩
theorem zlR (vw:Value) (x:Int) (h:Bd F W M tk) (hc:∀ W,Bd F W M tk->Calls Tryz.prog 169 #[pt F.E.mb 0] W λe w'=>e = .returned (.int .u8 x)/\Bd F w' M' tk/\Bt F W w') :
 Calls Tryz.prog 183 #[.agg #[fval 169 #[pt F.E.mb 0],vw]] W λe w'=>e = .returned (.int .u8 x)/\Bd F w' M' tk/\Bt F W w':=by
 have hn:∀ w:World,(binOp .eql 126 (fval 169 #[pt F.E.mb 0]) .nilFunc).run Tryz.prog w = .ok (.bool false) w:=λw=>eq_g _ _ _ w
 have H:=hid h
 have HC:=hid hc
 clear h hc
 go_enter Tryz.func183,Tryz.ntmps183
 go_wp2_with (go_at_call 169;refine (HC.out _ (H.out.over _)).mono ?_;rintro e w1 ⟨rfl,hB,hT⟩)
 go_ret
 exact ⟨rfl,hB,Mv.trans (Mv.of_below H.out.big (stA (st0 _) _)) hT⟩
theorem zlS (vw:Value) (x:Int) (h:Bd F W M tk) (hc:∀ W,Bd F W M tk->Calls Tryz.prog 175 #[pt F.E.mb 0] W λe w'=>e = .returned (.int .u8 x)/\Bd F w' M' tk/\Bt F W w') :
 Calls Tryz.prog 183 #[.agg #[fval 175 #[pt F.E.mb 0],vw]] W λe w'=>e = .returned (.int .u8 x)/\Bd F w' M' tk/\Bt F W w':=by
 have hn:∀ w:World,(binOp .eql 126 (fval 175 #[pt F.E.mb 0]) .nilFunc).run Tryz.prog w = .ok (.bool false) w:=λw=>eq_g _ _ _ w
 have H:=hid h
 have HC:=hid hc
 clear h hc
 go_enter Tryz.func183,Tryz.ntmps183
 go_wp2_with (go_at_call 175;refine (HC.out _ (H.out.over _)).mono ?_;rintro e w1 ⟨rfl,hB,hT⟩)
 go_ret
 exact ⟨rfl,hB,Mv.trans (Mv.of_below H.out.big (stA (st0 _) _)) hT⟩
theorem zhF (vw:Value) (x:Int) (q v:Nat) (h:Bd F W M tk) (hc:∀ W,Bd F W M tk->Calls Tryz.prog 215 #[pt q 0,pt v 0] W λe w'=>e = .returned (.int .u8 x)/\Bd F w' M' tk/\Bt F W w') :
 Calls Tryz.prog 183 #[.agg #[fval 215 #[pt q 0,pt v 0],vw]] W λe w'=>e = .returned (.int .u8 x)/\Bd F w' M' tk/\Bt F W w':=by
 have hn:∀ w:World,(binOp .eql 126 (fval 215 #[pt q 0,pt v 0]) .nilFunc).run Tryz.prog w = .ok (.bool false) w:=λw=>eq_g _ _ _ w
 have H:=hid h
 have HC:=hid hc
 clear h hc
 go_enter Tryz.func183,Tryz.ntmps183
 go_wp2_with (go_at_call 215;refine (HC.out _ (H.out.over _)).mono ?_;rintro e w1 ⟨rfl,hB,hT⟩)
 go_ret
 exact ⟨rfl,hB,Mv.trans (Mv.of_below H.out.big (stA (st0 _) _)) hT⟩
theorem zn9 (i:Nat) (hi:i<32):GetM F M tk i:=by
 intro W h
 have hc:i=0 \/ i=1 \/ i=2 \/ i=3 \/ i=4 \/ i=5 \/ i=6 \/ i=7 \/ i=8 \/ i=9 \/ i=10 \/ i=11 \/ i=12 \/ i=13 \/ i=14 \/ i=15 \/ i=16 \/ i=17 \/ i=18 \/ i=19 \/ i=20 \/ i=21 \/ i=22 \/ i=23 \/ i=24 \/ i=25 \/ i=26 \/ i=27 \/ i=28 \/ i=29 \/ i=30 \/ i=31:=by omega
 rcases hc with rfl|rfl|rfl|rfl|rfl|rfl|rfl|rfl|rfl|rfl|rfl|rfl|rfl|rfl|rfl|rfl|rfl|rfl|rfl|rfl|rfl|rfl|rfl|rfl|rfl|rfl|rfl|rfl|rfl|rfl|rfl|rfl
 ·exact zhF _ _ _ _ h (λW h=>zlK h)
 ·exact zhF _ _ _ _ h (λW h=>zlL h)
 ·exact zak _ h
 ·exact zak _ h
 ·exact zlM _ _ h (λW h=>zjO h)
 ·exact zak _ h
 ·exact zlQ _ _ h (λW h=>zlC h)
 ·exact zlR _ _ h (λW h=>zqs h)
 ·exact zlN _ _ h (λW h=>zlB h)
 ·exact zak _ h
 ·exact zak _ h
 ·exact zak _ h
 ·exact zak _ h
 ·exact zak _ h
 ·exact zak _ h
 ·exact zak _ h
 ·exact zlO _ _ h (λW h=>zn8 h)
 ·exact zlS _ _ h (λW h=>zlD h)
 ·exact zak _ h
 ·exact zak _ h
 ·exact zak _ h
 ·exact zak _ h
 ·exact zak _ h
 ·exact zak _ h
 ·exact zak _ h
 ·exact zak _ h
 ·exact zak _ h
 ·exact zak _ h
 ·exact zak _ h
 ·exact zak _ h
 ·exact zak _ h
 ·exact zak _ h
theorem zoa (i:Nat) (hi:i<32):GetA F M tk i:=by
 intro W h
 unfold Fx.rdA Mach.portA
 by_cases e:i=24
 ·rw [if_pos e,if_pos e]
  exact zlP _ _ h (λW h=>zlE h)
 ·rw [if_neg e,if_neg e]
  exact zak _ h
end
theorem zlT (r c:Int) (g:Bool) (w:World) (hc:0<=c/\c<=65535) :
 Calls Tryz.prog 115 #[.agg #[.int .u16 r,.int .u16 c,.bool true,.bool g]] w λe w'=>e = .returned (.agg #[.int .u16 r,.int .u16 (tkC r c true),.bool true,.bool (tkG c true g)])/\Below w.heap.size w w':=by
 by_cases h:c=0
 ·subst h
  go_enter Tryz.func115,Tryz.ntmps115
  go_wp2
  refine bodyPost_ret (v:=.agg _) (by simp [results,Tryz.results115,go_sem,tkC,tkG]) rfl ⟨rfl,?_⟩
  exact (stA (stA (st0 _) _) _)
 ·have hb:(c == 0)=false:=by simpa using h
  have H:=hid h
  clear h
  go_enter Tryz.func115,Tryz.ntmps115
  go_wp2
  have e:tkC r c true=c-1:=by unfold tkC;simp [H.out]
  have e0:=H.out
  have e3:IntKind.u16.wrap (c-1)=c-1:=by rw [IntKind.wrap_u16];omega
  have e2:tkG c true g=g:=by unfold tkG;simp [H.out]
  rw [e,e2]
  refine bodyPost_ret (v:=.agg _) (by simp [results,Tryz.results115,go_sem,e3]) rfl ⟨rfl,?_⟩
  exact (stA (stA (st0 _) _) _)
theorem zob (r c:Int) (on g:Bool) (w:World) :
 Calls Tryz.prog 251 #[.agg #[.int .u16 r,.int .u16 c,.bool on,.bool g]] w λe w'=>e = .returned (.agg #[.int .u16 r,.int .u16 r,.bool on,.bool g])/\Below w.heap.size w w':=by
 go_enter Tryz.func251,Tryz.ntmps251
 go_wp2
 refine bodyPost_ret (v:=.agg _) (by simp [results,Tryz.results251,go_sem];try rfl) rfl ⟨rfl,?_⟩
 exact (stA (stA (st0 _) _) _)
theorem zhG (n:Int) (w:World) :
 Calls Tryz.prog 189 #[.int .i64 n] w λe w'=>e = .returned (.func (.func 224) #[] #[.pointer (some ⟨w.heap.size,0,none⟩)])/\w'=w.alloc (.cells #[.int .i64 n] 3):=by
 go_enter Tryz.func189,Tryz.ntmps189
 go_wp2
 go_ret
 exact ⟨rfl,rfl⟩
theorem zlU (r c:Int) (g:Bool) (w:World) (hc:0<=c/\c<=65535) :
 Calls Tryz.prog 188 #[.agg #[.int .u16 r,.int .u16 c,.bool true,.bool g]] w λe w'=>e = .returned (.int .i64 (c+1))/\Below w.heap.size w w':=ze5 r c true g w hc
theorem zr1 (r c n:Int) (g:Bool) (h:n<c+1):rnC r c true n=c-n/\rnG c true g n=g:=by unfold rnC rnG;simp [h]
theorem zqt (r c n:Int) (g:Bool) (h:¬ n<c+1):rnC r c true n=r-(n-(c+1))%(r+1)/\rnG c true g n=true:=by unfold rnC rnG;simp [h]
theorem box4 {w w1:World} {r c:Int} {on g:Bool} {o:Obj} (hb1:Below ((w.alloc (.cells #[.int .u16 r,.int .u16 c,.bool on,.bool g] 31)).alloc o).heap.size ((w.alloc (.cells #[.int .u16 r,.int .u16 c,.bool on,.bool g] 31)).alloc o) w1) :
 w1.cell? ⟨w.heap.size,0,none⟩=some (.int .u16 r)/\w1.cell? ⟨w.heap.size,1,none⟩=some (.int .u16 c)/\w1.cell? ⟨w.heap.size,2,none⟩=some (.bool on)/\w1.cell? ⟨w.heap.size,3,none⟩=some (.bool g):=by
 have h:∀ j,w1.cell? ⟨w.heap.size,j,none⟩=#[Value.int .u16 r,.int .u16 c,.bool on,.bool g][j]?:=λj=>by
  rw [hb1.cell (p:=⟨w.heap.size,j,none⟩) (by simp;omega)]
  exact (World.cell?_alloc_lt _ _ ⟨w.heap.size,j,none⟩ (by simp)).trans (Pl.new _ _ _ _ rfl)
 exact ⟨h 0,h 1,h 2,h 3⟩
theorem box4r {w w1:World} {o:Obj} (hb1:Below ((w.alloc o).alloc (.cells #[.int .u16 0,.int .u16 0,.bool false,.bool false] 31)).heap.size ((w.alloc o).alloc (.cells #[.int .u16 0,.int .u16 0,.bool false,.bool false] 31)) w1) :
 w1.cell? ⟨w.heap.size+1,0,none⟩=some (.int .u16 0)/\w1.cell? ⟨w.heap.size+1,1,none⟩=some (.int .u16 0)/\w1.cell? ⟨w.heap.size+1,2,none⟩=some (.bool false)/\w1.cell? ⟨w.heap.size+1,3,none⟩=some (.bool false):=by
 have h:∀ j,w1.cell? ⟨w.heap.size+1,j,none⟩=#[Value.int .u16 0,.int .u16 0,.bool false,.bool false][j]?:=λj=>by
  rw [hb1.cell (p:=⟨w.heap.size+1,j,none⟩) (by simp)]
  exact Pl.new _ _ _ _ (by simp)
 exact ⟨h 0,h 1,h 2,h 3⟩
theorem resT {w w1:World} {o:Obj} (hb1:Below ((w.alloc o).alloc (.cells #[.int .u16 0,.int .u16 0,.bool false,.bool false] 31)).heap.size ((w.alloc o).alloc (.cells #[.int .u16 0,.int .u16 0,.bool false,.bool false] 31)) w1) :
 w1.there (w.heap.size+1) 0 4/\Below w.heap.size w w1:=by
 refine ⟨zbC (zaR (w.alloc o) #[.int .u16 0,.int .u16 0,.bool false,.bool false] 31 4 (w.heap.size+1) (by simp) rfl) hb1 (by simp),stp (stA (stA (st0 w) _) _) hb1⟩
theorem fin4 {w U:World} (r c:Int) (on g:Bool) (ht:U.there (w.heap.size+1) 0 4) (hB:Below w.heap.size w U) :
 Below w.heap.size w ((((U.setCell ⟨w.heap.size+1,0,none⟩ (.int .u16 r)).setCell ⟨w.heap.size+1,1,none⟩ (.int .u16 c)).setCell ⟨w.heap.size+1,2,none⟩ (.bool on)).setCell ⟨w.heap.size+1,3,none⟩ (.bool g)) /\
  ((((U.setCell ⟨w.heap.size+1,0,none⟩ (.int .u16 r)).setCell ⟨w.heap.size+1,1,none⟩ (.int .u16 c)).setCell ⟨w.heap.size+1,2,none⟩ (.bool on)).setCell ⟨w.heap.size+1,3,none⟩ (.bool g)).rangeAt (w.heap.size+1) 0 [.int .u16 r,.int .u16 c,.bool on,.bool g]:=by
 have h:=World.rangeAt_setCells_same U (w.heap.size+1) 0 [.int .u16 r,.int .u16 c,.bool on,.bool g] ht
 have h2:=Pl.below (Nat.le_succ w.heap.size) [.int .u16 r,.int .u16 c,.bool on,.bool g] 0 U hB
 simp only [World.setCells,Nat.zero_add,Nat.reduceAdd] at h h2
 exact ⟨h2,h⟩
theorem zjP {U:World} {b o:Nat} {L:List Value} (h:U.rangeAt b o L):U.drew.rangeAt b o L:=h
theorem keepT {W:World} {b0 b o:Nat} {r n:Int} {v:Value} (h:W.cell? ⟨b0,0,none⟩=some (.int .u16 r)/\W.cell? ⟨b,0,none⟩=some (.int .i64 n)) (hne:b≠b0) (ho:o≠0) :
 (W.setCell ⟨b0,o,none⟩ v).cell? ⟨b0,0,none⟩=some (.int .u16 r)/\(W.setCell ⟨b0,o,none⟩ v).cell? ⟨b,0,none⟩=some (.int .i64 n):=by
 refine ⟨(World.cell?_setCell_other _ _ _ _ ?_).trans h.1,(World.cell?_setCell_other _ _ _ _ ?_).trans h.2⟩
 ·intro e;exact ho (congrArg Addr.off e)
 ·intro e;exact hne (congrArg Addr.block e).symm
theorem zjQ (r c n:Int) (g:Bool) (b:Nat) (w:World) (hr:0<=r/\r<=65535) (hc:0<=c/\c<=65535) (hn:0<=n/\n<=20000) (hb:w.cell? ⟨b,0,none⟩=some (.int .i64 n)) (hlt:b<w.heap.size) :
 Calls Tryz.prog 224 #[.agg #[.int .u16 r,.int .u16 c,.bool true,.bool g],.pointer (some ⟨b,0,none⟩)] w λe w'=>e = .returned (.agg #[.int .u16 r,.int .u16 (rnC r c true n),.bool true,.bool (rnG c true g n)])/\Below w.heap.size w w':=by
 have hne:b≠w.heap.size:=Nat.ne_of_lt hlt
 have hne1:b≠w.heap.size+1:=by omega
 by_cases h:n<c+1
 ·obtain ⟨e1,e2⟩:=zr1 r c n g h
  rw [e1,e2]
  go_enter Tryz.func224,Tryz.ntmps224
  go_wp2_with (go_at_call 188;refine (zlU _ _ _ _ hc).mono ?_;rintro e w1 ⟨rfl,hb1⟩;obtain ⟨k1,f1⟩:=bcell hb1;have z1:w.heap.size+1<w1.heap.size:=Nat.lt_of_lt_of_le (by simp) hb1.size;have z10:=Nat.lt_of_succ_lt z1;have z0:b<w1.heap.size:=Nat.lt_of_lt_of_le hlt (Nat.le_of_lt (Nat.lt_of_succ_lt z1));obtain ⟨y0,y1,y2,y3⟩:=box4 hb1;obtain ⟨x0,x1,x2,x3⟩:=box4r hb1;have c1:=((stp (stA (stA (st0 w) _) _) hb1).cell (p:=⟨b,0,none⟩) hlt).trans hb)
  obtain ⟨hT,hB⟩:=resT hb1
  have hF:=fin4 (U:=w1.setCell ⟨w.heap.size,1,none⟩ (.int .u16 (c-n))) r (c-n) true g (World.there_setCells hT w.heap.size 1 [.int .u16 (c-n)]) (hB.setCell (Nat.le_refl _) _)
  refine Pl.cutB (λY=>Below w.heap.size w Y/\Y.rangeAt (w.heap.size+1) 0 [.int .u16 r,.int .u16 (c-n),.bool true,.bool g]) hF ?_
  rintro Y ⟨hY,hR⟩
  exact bodyPost_ret (v:=.agg _) (by simp only [results,Tryz.results224];simp;exact Pl.res (zaP _ _ _ _ _ _ hR)) rfl ⟨rfl,hY⟩
 ·obtain ⟨e1,e2⟩:=zqt r c n g h
  rw [e1,e2]
  go_enter Tryz.func224,Tryz.ntmps224
  go_wp2_with (go_at_call 188;refine (zlU _ _ _ _ hc).mono ?_;rintro e w1 ⟨rfl,hb1⟩;obtain ⟨k1,f1⟩:=bcell hb1;have z1:w.heap.size+1<w1.heap.size:=Nat.lt_of_lt_of_le (by simp) hb1.size;have z10:=Nat.lt_of_succ_lt z1;have z0:b<w1.heap.size:=Nat.lt_of_lt_of_le hlt (Nat.le_of_lt (Nat.lt_of_succ_lt z1));obtain ⟨y0,y1,y2,y3⟩:=box4 hb1;obtain ⟨x0,x1,x2,x3⟩:=box4r hb1;have c1:=((stp (stA (stA (st0 w) _) _) hb1).cell (p:=⟨b,0,none⟩) hlt).trans hb)
  have m1:=Int.emod_nonneg (n-(c+1)) (show r+1≠0 by omega)
  have m2:=Int.emod_lt_of_pos (n-(c+1)) (show 0<r+1 by omega)
  have q1:IntKind.i64.wrap (n-(c+1))=n-(c+1):=by simp [IntKind.wrap,IntKind.bits,IntKind.signed];omega
  have q2:IntKind.i64.wrap ((n-(c+1)).tmod (r+1))=(n-(c+1))%(r+1):=by rw [Int.tmod_eq_emod_of_nonneg (by omega)];simp [IntKind.wrap,IntKind.bits,IntKind.signed];omega
  have q3:IntKind.u16.wrap ((n-(c+1))%(r+1))=(n-(c+1))%(r+1):=by rw [IntKind.wrap_u16];omega
  have q4:IntKind.u16.wrap (r-(n-(c+1))%(r+1))=r-(n-(c+1))%(r+1):=by rw [IntKind.wrap_u16];omega
  have q5:r+1≠0:=by omega
  have hne2:¬ (w.heap.size=b):=λe=>hne e.symm
  clear k1 hb
  go_region_held3 (λw'=>w'.cell? ⟨w.heap.size,0,none⟩=some (.int .u16 r)/\w'.cell? ⟨b,0,none⟩=some (.int .i64 n))
   (first
     | exact keepT ⟨y0,c1⟩ hne (by decide)
     | exact keepT (keepT ⟨y0,c1⟩ hne (by decide)) hne (by decide)
     | (go_keep;done))
   (fail)
  go_wp2
  obtain ⟨hT,hB⟩:=resT hb1
  have hF:=fin4 (U:=(w1.setCell ⟨w.heap.size,1,none⟩ (.int .u16 (r-(n-(c+1))%(r+1)))).setCell ⟨w.heap.size,3,none⟩ (.bool true)) r (r-(n-(c+1))%(r+1)) true true (World.there_setCells (World.there_setCells hT w.heap.size 1 [.int .u16 (r-(n-(c+1))%(r+1))]) w.heap.size 3 [.bool true]) ((hB.setCell (Nat.le_refl _) _).setCell (Nat.le_refl _) _)
  refine Pl.cutB (λY=>Below w.heap.size w Y/\Y.rangeAt (w.heap.size+1) 0 [.int .u16 r,.int .u16 (r-(n-(c+1))%(r+1)),.bool true,.bool true]) ⟨hF.1.drew,zjP hF.2⟩ ?_
  rintro Y ⟨hY,hR⟩
  exact bodyPost_ret (v:=.agg _) (by simp only [results,Tryz.results224];simp;exact Pl.res (zaP _ _ _ _ _ _ hR)) rfl ⟨rfl,hY⟩
/-! ### whenOn -/
theorem zgg (r c:Int) (g:Bool) (f:Value) (w:World) :
 Calls Tryz.prog 114 #[.agg #[.int .u16 r,.int .u16 c,.bool false,.bool g],f] w λe w'=>e = .returned (.agg #[.int .u16 r,.int .u16 c,.bool false,.bool g])/\Below w.heap.size w w':=by
 go_enter Tryz.func114,Tryz.ntmps114
 go_wp2
 refine bodyPost_ret (v:=.agg _) (by simp [results,Tryz.results114,go_sem]) rfl ⟨rfl,?_⟩
 exact (stA (stA (st0 _) _) _)
theorem zlV (r c:Int) (g:Bool) (w:World) (hc:0<=c/\c<=65535) :
 Calls Tryz.prog 114 #[.agg #[.int .u16 r,.int .u16 c,.bool true,.bool g],.func (.func 115) #[] #[]] w λe w'=>e = .returned (.agg #[.int .u16 r,.int .u16 (tkC r c true),.bool true,.bool (tkG c true g)])/\Below w.heap.size w w':=by
 go_enter Tryz.func114,Tryz.ntmps114
 go_wp2_with (go_at_call 115;refine (zlT _ _ _ _ hc).mono ?_;rintro e w1 ⟨rfl,hb1⟩;obtain ⟨k1,f1⟩:=bcell hb1;have z1:w.heap.size+1<w1.heap.size:=Nat.lt_of_lt_of_le (by simp) hb1.size)
 have hF:=fin4 r (tkC r c true) true (tkG c true g) (resT hb1).1 (resT hb1).2
 refine Pl.cutB (λY=>Below w.heap.size w Y/\Y.rangeAt (w.heap.size+1) 0 [.int .u16 r,.int .u16 (tkC r c true),.bool true,.bool (tkG c true g)]) hF ?_
 rintro Y ⟨hY,hR⟩
 exact bodyPost_ret (v:=.agg _) (by simp only [results,Tryz.results114];simp;exact Pl.res (zaP _ _ _ _ _ _ hR)) rfl ⟨rfl,hY⟩
theorem zoc (r c:Int) (g:Bool) (w:World) :
 Calls Tryz.prog 114 #[.agg #[.int .u16 r,.int .u16 c,.bool true,.bool g],.func (.func 251) #[] #[]] w λe w'=>e = .returned (.agg #[.int .u16 r,.int .u16 r,.bool true,.bool g])/\Below w.heap.size w w':=by
 go_enter Tryz.func114,Tryz.ntmps114
 go_wp2_with (go_at_call 251;refine (zob _ _ _ _ _).mono ?_;rintro e w1 ⟨rfl,hb1⟩;obtain ⟨k1,f1⟩:=bcell hb1;have z1:w.heap.size+1<w1.heap.size:=Nat.lt_of_lt_of_le (by simp) hb1.size)
 have hF:=fin4 r r true g (resT hb1).1 (resT hb1).2
 refine Pl.cutB (λY=>Below w.heap.size w Y/\Y.rangeAt (w.heap.size+1) 0 [.int .u16 r,.int .u16 r,.bool true,.bool g]) hF ?_
 rintro Y ⟨hY,hR⟩
 exact bodyPost_ret (v:=.agg _) (by simp only [results,Tryz.results114];simp;exact Pl.res (zaP _ _ _ _ _ _ hR)) rfl ⟨rfl,hY⟩
theorem zjR (r c n:Int) (g:Bool) (b:Nat) (w:World) (hr:0<=r/\r<=65535) (hc:0<=c/\c<=65535) (hn:0<=n/\n<=20000) (hb:w.cell? ⟨b,0,none⟩=some (.int .i64 n)) (hlt:b<w.heap.size) :
 Calls Tryz.prog 114 #[.agg #[.int .u16 r,.int .u16 c,.bool true,.bool g],.func (.func 224) #[] #[.pointer (some ⟨b,0,none⟩)]] w λe w'=>e = .returned (.agg #[.int .u16 r,.int .u16 (rnC r c true n),.bool true,.bool (rnG c true g n)])/\Below w.heap.size w w':=by
 have hc2:=λo1 o2=>((stA (stA (st0 w) o1) o2).cell (p:=⟨b,0,none⟩) hlt).trans hb
 go_enter Tryz.func114,Tryz.ntmps114
 go_wp2_with (go_at_call 224;refine (zjQ _ _ _ _ _ _ hr hc hn (hc2 _ _) (by simp;omega)).mono ?_;rintro e w1 ⟨rfl,hb1⟩;obtain ⟨k1,f1⟩:=bcell hb1;have z1:w.heap.size+1<w1.heap.size:=Nat.lt_of_lt_of_le (by simp) hb1.size)
 have hF:=fin4 r (rnC r c true n) true (rnG c true g n) (resT hb1).1 (resT hb1).2
 refine Pl.cutB (λY=>Below w.heap.size w Y/\Y.rangeAt (w.heap.size+1) 0 [.int .u16 r,.int .u16 (rnC r c true n),.bool true,.bool (rnG c true g n)]) hF ?_
 rintro Y ⟨hY,hR⟩
 exact bodyPost_ret (v:=.agg _) (by simp only [results,Tryz.results114];simp;exact Pl.res (zaP _ _ _ _ _ _ hR)) rfl ⟨rfl,hY⟩
/-! ### Set, Tick, Run -/
theorem ziq (r c:Int) (on g:Bool) (w:World) (hc:0<=c/\c<=65535) :
 Calls Tryz.prog 64 #[.agg #[.int .u16 r,.int .u16 c,.bool on,.bool g]] w λe w'=>e = .returned (.agg #[.int .u16 r,.int .u16 (tkC r c on),.bool on,.bool (tkG c on g)])/\Below w.heap.size w w':=by
 cases on
 ·go_enter Tryz.func64,Tryz.ntmps64
  go_wp2_with (go_at_call 114;refine (zgg _ _ _ _ _).mono ?_;rintro e w1 ⟨rfl,hb1⟩;obtain ⟨k1,f1⟩:=bcell hb1;have z1:w.heap.size+1<w1.heap.size:=Nat.lt_of_lt_of_le (by simp) hb1.size)
  have hF:=fin4 r c false g (resT hb1).1 (resT hb1).2
  refine Pl.cutB (λY=>Below w.heap.size w Y/\Y.rangeAt (w.heap.size+1) 0 [.int .u16 r,.int .u16 c,.bool false,.bool g]) hF ?_
  rintro Y ⟨hY,hR⟩
  exact bodyPost_ret (v:=.agg _) (by simp only [results,Tryz.results64];simp;exact Pl.res (zaP _ _ _ _ _ _ hR)) rfl ⟨rfl,hY⟩
 ·go_enter Tryz.func64,Tryz.ntmps64
  go_wp2_with (go_at_call 114;refine (zlV _ _ _ _ hc).mono ?_;rintro e w1 ⟨rfl,hb1⟩;obtain ⟨k1,f1⟩:=bcell hb1;have z1:w.heap.size+1<w1.heap.size:=Nat.lt_of_lt_of_le (by simp) hb1.size)
  have hF:=fin4 r (tkC r c true) true (tkG c true g) (resT hb1).1 (resT hb1).2
  refine Pl.cutB (λY=>Below w.heap.size w Y/\Y.rangeAt (w.heap.size+1) 0 [.int .u16 r,.int .u16 (tkC r c true),.bool true,.bool (tkG c true g)]) hF ?_
  rintro Y ⟨hY,hR⟩
  exact bodyPost_ret (v:=.agg _) (by simp only [results,Tryz.results64];simp;exact Pl.res (zaP _ _ _ _ _ _ hR)) rfl ⟨rfl,hY⟩
theorem zgh (r c:Int) (o0 on g:Bool) (w:World) :
 Calls Tryz.prog 221 #[.agg #[.int .u16 r,.int .u16 c,.bool o0,.bool g],.bool on] w λe w'=>e = .returned (.agg #[.int .u16 r,.int .u16 (sel on r c),.bool on,.bool g])/\Below w.heap.size w w':=by
 cases on
 ·go_enter Tryz.func221,Tryz.ntmps221
  go_wp2_with (go_at_call 114;refine (zgg _ _ _ _ _).mono ?_;rintro e w1 ⟨rfl,hb1⟩;obtain ⟨k1,f1⟩:=bcell hb1;have z1:w.heap.size+1<w1.heap.size:=Nat.lt_of_lt_of_le (by simp) hb1.size)
  have hF:=fin4 r c false g (resT hb1).1 (resT hb1).2
  refine Pl.cutB (λY=>Below w.heap.size w Y/\Y.rangeAt (w.heap.size+1) 0 [.int .u16 r,.int .u16 c,.bool false,.bool g]) hF ?_
  rintro Y ⟨hY,hR⟩
  exact bodyPost_ret (v:=.agg _) (by simp only [results,Tryz.results221];simp;exact Pl.res (zaP _ _ _ _ _ _ hR)) rfl ⟨rfl,hY⟩
 ·go_enter Tryz.func221,Tryz.ntmps221
  go_wp2_with (go_at_call 114;refine (zoc _ _ _ _).mono ?_;rintro e w1 ⟨rfl,hb1⟩;obtain ⟨k1,f1⟩:=bcell hb1;have z1:w.heap.size+1<w1.heap.size:=Nat.lt_of_lt_of_le (by simp) hb1.size)
  have hF:=fin4 r r true g (resT hb1).1 (resT hb1).2
  refine Pl.cutB (λY=>Below w.heap.size w Y/\Y.rangeAt (w.heap.size+1) 0 [.int .u16 r,.int .u16 r,.bool true,.bool g]) hF ?_
  rintro Y ⟨hY,hR⟩
  exact bodyPost_ret (v:=.agg _) (by simp only [results,Tryz.results221];simp;exact Pl.res (zaP _ _ _ _ _ _ hR)) rfl ⟨rfl,hY⟩
end Go.Proofs.YtbennamieealbaaGreatDoor
