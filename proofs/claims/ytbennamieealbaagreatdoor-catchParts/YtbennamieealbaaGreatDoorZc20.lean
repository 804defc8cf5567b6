/-
  Parts of a proof, joined.
-/
import Derived.Test.YtbennamieealbaaGreatDoorZc17
import Derived.Test.YtbennamieealbaaGreatDoorZc16
import Derived.Test.YtbennamieealbaaGreatDoorZc19
import Derived.Test.YtbennamieealbaaGreatDoorZc15
import Derived.Test.YtbennamieealbaaGreatDoorZc07
import Derived.Deep.RegionHeld3
set_option linter.unusedVariables false
set_option maxRecDepth 100000
set_option maxHeartbeats 3200000
namespace Go.Proofs.YtbennamieealbaaGreatDoor
open Go.ChangeShapes Go.WideShapes Go.ChangeAt Go.RowKit
section
variable {F : Fx} {W : World} {M M' : Mach} {tk : Tk}
theorem two_0 (a b c d e f:Value) (w:World):(Instr.index 29 (.agg #[a,b,c,d,e,f]) (.int .i64 0)).run Tryz.prog w = .ok (.agg #[a,b,c]) w:=by kernel_rfl
theorem two_1 (a b c d e f:Value) (w:World):(Instr.index 29 (.agg #[a,b,c,d,e,f]) (.int .i64 1)).run Tryz.prog w = .ok (.agg #[d,e,f]) w:=by kernel_rfl
theorem Bd.padC (h:Bd F W M tk):W.cell? ⟨F.g,35,none⟩=some (.int .u8 M.p0.d)/\W.cell? ⟨F.g,36,none⟩=some (.bool M.p0.l)/\W.cell? ⟨F.g,37,none⟩=some (.int .u8 M.p0.s)/\W.cell? ⟨F.g,38,none⟩=some (.int .u8 M.p1.d)/\W.cell? ⟨F.g,39,none⟩=some (.bool M.p1.l)/\W.cell? ⟨F.g,40,none⟩=some (.int .u8 M.p1.s)/\(∀ o,W.frozen? ⟨F.g,o,none⟩=false)/\F.g<W.heap.size :=
 ⟨h.at 35 _ rfl,h.at 36 _ rfl,h.at 37 _ rfl,h.at 38 _ rfl,h.at 39 _ rfl,h.at 40 _ rfl,h.bx.f,h.bx.z⟩
theorem zl5 (h:Bd F W M tk) (n:Int) (hn:0<=n/\n<=255):Calls Tryz.prog 163 #[pt F.g 0,.int .u8 n] W λe w'=>e = .returned (.tuple #[])/\Bd F w' (M.putM 0 n) tk/\Bt F W w':=by
 have i0:=two_0 (.int .u8 M.p0.d) (.bool M.p0.l) (.int .u8 M.p0.s) (.int .u8 M.p1.d) (.bool M.p1.l) (.int .u8 M.p1.s)
 have i1:=two_1 (.int .u8 M.p0.d) (.bool M.p0.l) (.int .u8 M.p0.s) (.int .u8 M.p1.d) (.bool M.p1.l) (.int .u8 M.p1.s)
 have H:=hid h
 obtain ⟨c0,c1,c2,c3,c4,c5,ff,hg⟩:=h.padC
 clear h
 go_enter Tryz.func163,Tryz.ntmps163
 go_wp2
 go_loopw [11] (λi wr=>Bt F W wr/\((i = .int .i64 0/\Bd F wr M tk) \/ (i = .int .i64 1/\Bd F wr { M with p0:=M.p0.wr n } tk) \/ (i = .int .i64 2/\Bd F wr (M.putM 0 n) tk))) (λi _=>2-(intOf i).toNat)
 case atStart=>exact ⟨Bt.refl _ _,Or.inl ⟨rfl,H.out⟩⟩
 case round =>
  obtain ⟨hT,hrel⟩:=hrel
  have HT:=hid hT
  clear hT c0 c1 c2 c3 c4 c5 ff hg
  rcases hrel with ⟨rfl,hB⟩|⟨rfl,hB⟩|⟨rfl,hB⟩
  ·obtain ⟨c0,c1,c2,c3,c4,c5,ff,hg⟩:=hB.padC
   have HB:=hid hB
   clear hB
   go_wp2
   go_region_with (go_at_call 217;refine (zhy _ _ n _ _ hn).mono ?_;rintro e w1 ⟨rfl,hb1⟩;obtain ⟨x0,x1,x2,x3,x4,x5,xf,xg⟩:=((HB.out.over _).drew.kept hb1).padC)
   all_goals go_wp2
   all_goals
    refine ⟨⟨?_,Or.inr (Or.inl ⟨rfl,?_⟩)⟩,by decide⟩
    ·exact Bt.sets HB.out.nd [.int .u8 M.p0.d,.bool (odd n),.int .u8 (sel (odd n) M.p0.d M.p0.s)] 35 _ (Mv.trans HT.out (Bt.below HB.out (stp (stA (st0 _) _).drew hb1)))
    ·exact ((HB.out.over _).drew.kept hb1).puts (M':={ M with p0:=M.p0.wr n }) (tk':=tk) 35 [.int .u8 M.p0.d,.bool (odd n),.int .u8 (sel (odd n) M.p0.d M.p0.s)] (by simp) rfl ⟨rfl,rfl,rfl,rfl,rfl⟩ { HB.out.fit with main:=HB.out.fit.main,p0:=Pd.wr_ok HB.out.fit.p0 n }
  ·obtain ⟨c0,c1,c2,c3,c4,c5,ff,hg⟩:=hB.padC
   have HB:=hid hB
   clear hB
   go_wp2
   go_region_with (go_at_call 217;refine (zhy _ _ n _ _ hn).mono ?_;rintro e w1 ⟨rfl,hb1⟩;obtain ⟨x0,x1,x2,x3,x4,x5,xf,xg⟩:=((HB.out.over _).drew.kept hb1).padC)
   all_goals go_wp2
   all_goals
    refine ⟨⟨?_,Or.inr (Or.inr ⟨rfl,?_⟩)⟩,by decide⟩
    ·exact Bt.sets HB.out.nd [.int .u8 M.p1.d,.bool (odd n),.int .u8 (sel (odd n) M.p1.d M.p1.s)] 38 _ (Mv.trans HT.out (Bt.below HB.out (stp (stA (st0 _) _).drew hb1)))
    ·exact ((HB.out.over _).drew.kept hb1).puts (M':=M.putM 0 n) (tk':=tk) 38 [.int .u8 M.p1.d,.bool (odd n),.int .u8 (sel (odd n) M.p1.d M.p1.s)] (by simp) rfl ⟨rfl,rfl,rfl,rfl,rfl⟩ (show Mach.fit { M with p0:=M.p0.wr n,p1:=M.p1.wr n } from { HB.out.fit with main:=HB.out.fit.main,p1:=Pd.wr_ok HB.out.fit.p1 n })
  ·have HB:=hid hB
   clear hB
   go_wp2
   go_end0
   exact ⟨rfl,HB.out,HT.out⟩
end
section
variable {F : Fx} {W : World} {M M' : Mach} {tk tk' : Tk}
theorem ne_g (n:Nat) (a b:Array Value) (w:World):(binOp .neq 127 (.func (.func n) a b) .nilFunc).run Tryz.prog w = .ok (.bool true) w:=by kernel_rfl
theorem ne_gn (w:World):(binOp .neq 127 .nilFunc .nilFunc).run Tryz.prog w = .ok (.bool false) w:=by kernel_rfl
theorem zap (vr:Value) (n:Int) (h:Bd F W M tk):Calls Tryz.prog 185 #[.agg #[vr,.nilFunc],.int .u8 n] W λe w'=>e = .returned (.tuple #[])/\Bd F w' M tk/\Bt F W w':=by
 have hn:=ne_gn
 have H:=hid h
 clear h
 go_enter Tryz.func185,Tryz.ntmps185
 go_wp2
 go_end0
 exact ⟨rfl,H.out.over _,Mv.of_below H.out.big (stA (st0 _) _)⟩
theorem zl6 (vr:Value) (n:Int) (h:Bd F W M tk) (hc:∀ W,Bd F W M tk->Calls Tryz.prog 163 #[pt F.g 0,.int .u8 n] W λe w'=>e = .returned (.tuple #[])/\Bd F w' M' tk'/\Bt F W w') :
 Calls Tryz.prog 185 #[.agg #[vr,mval 163 F.g 0],.int .u8 n] W λe w'=>e = .returned (.tuple #[])/\Bd F w' M' tk'/\Bt F W w':=by
 have hn:∀ w:World,(binOp .neq 127 (mval 163 F.g 0) .nilFunc).run Tryz.prog w = .ok (.bool true) w:=λw=>ne_g _ _ _ w
 have H:=hid h
 have HC:=hid hc
 clear h hc
 go_enter Tryz.func185,Tryz.ntmps185
 go_wp2_with (go_at_call 163;refine (HC.out _ (H.out.over _)).mono ?_;rintro e w1 ⟨rfl,hB,hT⟩)
 go_end0
 exact ⟨rfl,hB,Mv.trans (Mv.of_below H.out.big (stA (st0 _) _)) hT⟩
theorem zl7 (vr:Value) (n:Int) (h:Bd F W M tk) (hc:∀ W,Bd F W M tk->Calls Tryz.prog 167 #[pt F.g 0,.int .u8 n] W λe w'=>e = .returned (.tuple #[])/\Bd F w' M' tk'/\Bt F W w') :
 Calls Tryz.prog 185 #[.agg #[vr,mval 167 F.g 0],.int .u8 n] W λe w'=>e = .returned (.tuple #[])/\Bd F w' M' tk'/\Bt F W w':=by
 have hn:∀ w:World,(binOp .neq 127 (mval 167 F.g 0) .nilFunc).run Tryz.prog w = .ok (.bool true) w:=λw=>ne_g _ _ _ w
 have H:=hid h
 have HC:=hid hc
 clear h hc
 go_enter Tryz.func185,Tryz.ntmps185
 go_wp2_with (go_at_call 167;refine (HC.out _ (H.out.over _)).mono ?_;rintro e w1 ⟨rfl,hB,hT⟩)
 go_end0
 exact ⟨rfl,hB,Mv.trans (Mv.of_below H.out.big (stA (st0 _) _)) hT⟩
theorem zl8 (vr:Value) (n:Int) (h:Bd F W M tk) (hc:∀ W,Bd F W M tk->Calls Tryz.prog 171 #[pt F.g 0,.int .u8 n] W λe w'=>e = .returned (.tuple #[])/\Bd F w' M' tk'/\Bt F W w') :
 Calls Tryz.prog 185 #[.agg #[vr,mval 171 F.g 0],.int .u8 n] W λe w'=>e = .returned (.tuple #[])/\Bd F w' M' tk'/\Bt F W w':=by
 have hn:∀ w:World,(binOp .neq 127 (mval 171 F.g 0) .nilFunc).run Tryz.prog w = .ok (.bool true) w:=λw=>ne_g _ _ _ w
 have H:=hid h
 have HC:=hid hc
 clear h hc
 go_enter Tryz.func185,Tryz.ntmps185
 go_wp2_with (go_at_call 171;refine (HC.out _ (H.out.over _)).mono ?_;rintro e w1 ⟨rfl,hB,hT⟩)
 go_end0
 exact ⟨rfl,hB,Mv.trans (Mv.of_below H.out.big (stA (st0 _) _)) hT⟩
theorem zl9 (vr:Value) (n:Int) (h:Bd F W M tk) (hc:∀ W,Bd F W M tk->Calls Tryz.prog 172 #[pt F.g 0,.int .u8 n] W λe w'=>e = .returned (.tuple #[])/\Bd F w' M' tk'/\Bt F W w') :
 Calls Tryz.prog 185 #[.agg #[vr,mval 172 F.g 0],.int .u8 n] W λe w'=>e = .returned (.tuple #[])/\Bd F w' M' tk'/\Bt F W w':=by
 have hn:∀ w:World,(binOp .neq 127 (mval 172 F.g 0) .nilFunc).run Tryz.prog w = .ok (.bool true) w:=λw=>ne_g _ _ _ w
 have H:=hid h
 have HC:=hid hc
 clear h hc
 go_enter Tryz.func185,Tryz.ntmps185
 go_wp2_with (go_at_call 172;refine (HC.out _ (H.out.over _)).mono ?_;rintro e w1 ⟨rfl,hB,hT⟩)
 go_end0
 exact ⟨rfl,hB,Mv.trans (Mv.of_below H.out.big (stA (st0 _) _)) hT⟩
theorem zma (vr:Value) (n:Int) (h:Bd F W M tk) (hc:∀ W,Bd F W M tk->Calls Tryz.prog 174 #[pt F.g 0,.int .u8 n] W λe w'=>e = .returned (.tuple #[])/\Bd F w' M' tk'/\Bt F W w') :
 Calls Tryz.prog 185 #[.agg #[vr,mval 174 F.g 0],.int .u8 n] W λe w'=>e = .returned (.tuple #[])/\Bd F w' M' tk'/\Bt F W w':=by
 have hn:∀ w:World,(binOp .neq 127 (mval 174 F.g 0) .nilFunc).run Tryz.prog w = .ok (.bool true) w:=λw=>ne_g _ _ _ w
 have H:=hid h
 have HC:=hid hc
 clear h hc
 go_enter Tryz.func185,Tryz.ntmps185
 go_wp2_with (go_at_call 174;refine (HC.out _ (H.out.over _)).mono ?_;rintro e w1 ⟨rfl,hB,hT⟩)
 go_end0
 exact ⟨rfl,hB,Mv.trans (Mv.of_below H.out.big (stA (st0 _) _)) hT⟩
theorem zmb (vr:Value) (n:Int) (h:Bd F W M tk) (hc:∀ W,Bd F W M tk->Calls Tryz.prog 176 #[pt F.g 0,.int .u8 n] W λe w'=>e = .returned (.tuple #[])/\Bd F w' M' tk'/\Bt F W w') :
 Calls Tryz.prog 185 #[.agg #[vr,mval 176 F.g 0],.int .u8 n] W λe w'=>e = .returned (.tuple #[])/\Bd F w' M' tk'/\Bt F W w':=by
 have hn:∀ w:World,(binOp .neq 127 (mval 176 F.g 0) .nilFunc).run Tryz.prog w = .ok (.bool true) w:=λw=>ne_g _ _ _ w
 have H:=hid h
 have HC:=hid hc
 clear h hc
 go_enter Tryz.func185,Tryz.ntmps185
 go_wp2_with (go_at_call 176;refine (HC.out _ (H.out.over _)).mono ?_;rintro e w1 ⟨rfl,hB,hT⟩)
 go_end0
 exact ⟨rfl,hB,Mv.trans (Mv.of_below H.out.big (stA (st0 _) _)) hT⟩
theorem zdX (vr:Value) (n:Int) (q:Nat) (h:Bd F W M tk) (hc:∀ W,Bd F W M tk->Calls Tryz.prog 218 #[.int .u8 n,pt q 0] W λe w'=>e = .returned (.tuple #[])/\Bd F w' M' tk'/\Bt F W w') :
 Calls Tryz.prog 185 #[.agg #[vr,fval 218 #[pt q 0]],.int .u8 n] W λe w'=>e = .returned (.tuple #[])/\Bd F w' M' tk'/\Bt F W w':=by
 have hn:∀ w:World,(binOp .neq 127 (fval 218 #[pt q 0]) .nilFunc).run Tryz.prog w = .ok (.bool true) w:=λw=>ne_g _ _ _ w
 have H:=hid h
 have HC:=hid hc
 clear h hc
 go_enter Tryz.func185,Tryz.ntmps185
 go_wp2_with (go_at_call 218;refine (HC.out _ (H.out.over _)).mono ?_;rintro e w1 ⟨rfl,hB,hT⟩)
 go_end0
 exact ⟨rfl,hB,Mv.trans (Mv.of_below H.out.big (stA (st0 _) _)) hT⟩
theorem zdY (vr:Value) (n:Int) (q:Nat) (h:Bd F W M tk) (hc:∀ W,Bd F W M tk->Calls Tryz.prog 219 #[.int .u8 n,pt q 0] W λe w'=>e = .returned (.tuple #[])/\Bd F w' M' tk'/\Bt F W w') :
 Calls Tryz.prog 185 #[.agg #[vr,fval 219 #[pt q 0]],.int .u8 n] W λe w'=>e = .returned (.tuple #[])/\Bd F w' M' tk'/\Bt F W w':=by
 have hn:∀ w:World,(binOp .neq 127 (fval 219 #[pt q 0]) .nilFunc).run Tryz.prog w = .ok (.bool true) w:=λw=>ne_g _ _ _ w
 have H:=hid h
 have HC:=hid hc
 clear h hc
 go_enter Tryz.func185,Tryz.ntmps185
 go_wp2_with (go_at_call 219;refine (HC.out _ (H.out.over _)).mono ?_;rintro e w1 ⟨rfl,hB,hT⟩)
 go_end0
 exact ⟨rfl,hB,Mv.trans (Mv.of_below H.out.big (stA (st0 _) _)) hT⟩
theorem zmc (vr:Value) (n:Int) (q:Nat) (h:Bd F W M tk) (hc:∀ W,Bd F W M tk->Calls Tryz.prog 178 #[.int .u8 n,pt q 0] W λe w'=>e = .returned (.tuple #[])/\Bd F w' M' tk'/\Bt F W w') :
 Calls Tryz.prog 185 #[.agg #[vr,fval 178 #[pt q 0]],.int .u8 n] W λe w'=>e = .returned (.tuple #[])/\Bd F w' M' tk'/\Bt F W w':=by
 have hn:∀ w:World,(binOp .neq 127 (fval 178 #[pt q 0]) .nilFunc).run Tryz.prog w = .ok (.bool true) w:=λw=>ne_g _ _ _ w
 have H:=hid h
 have HC:=hid hc
 clear h hc
 go_enter Tryz.func185,Tryz.ntmps185
 go_wp2_with (go_at_call 178;refine (HC.out _ (H.out.over _)).mono ?_;rintro e w1 ⟨rfl,hB,hT⟩)
 go_end0
 exact ⟨rfl,hB,Mv.trans (Mv.of_below H.out.big (stA (st0 _) _)) hT⟩
theorem zmd (vr:Value) (n:Int) (q v:Nat) {l:List Wt} (h:Bd F W M tk) (hc:∀ W,Bd F W M tk->Calls Tryz.prog 222 #[.int .u8 n,pt q 0,pt v 0] W λe w'=>e = .returned (.tuple #[])/\EndA F W w' M' tk l) :
 Calls Tryz.prog 185 #[.agg #[vr,fval 222 #[pt q 0,pt v 0]],.int .u8 n] W λe w'=>e = .returned (.tuple #[])/\EndA F W w' M' tk l:=by
 have hn:∀ w:World,(binOp .neq 127 (fval 222 #[pt q 0,pt v 0]) .nilFunc).run Tryz.prog w = .ok (.bool true) w:=λw=>ne_g _ _ _ w
 have H:=hid h
 have HC:=hid hc
 clear h hc
 go_enter Tryz.func185,Tryz.ntmps185
 go_wp2_with (go_at_call 222;refine (HC.out _ (H.out.over _)).mono ?_;rintro e w1 ⟨rfl,hB⟩)
 go_end0
 exact ⟨rfl,hB.1,(Bw.of_below H.out.big (stA (st0 _) _)).trans hB.2⟩
theorem zck {k:Nat} {n:Int} (h:M.fit) (hn:0<=n/\n<=255) (hk:k=2 \/ k=3 \/ k=10 \/ k=11 \/ k=12 \/ k=13):(M.putM k n).fit:=by
 rcases hk with rfl|rfl|rfl|rfl|rfl|rfl
 ·exact (show Mach.fit { M with t:={ M.t with r:=hiB M.t.r n } } from { h with tr:=zlF h.tr hn,tc:=h.tc,main:=h.main })
 ·exact (show Mach.fit { M with t:={ M.t with r:=loB M.t.r n } } from { h with tr:=zlG h.tr hn,tc:=h.tc,main:=h.main })
 ·exact (show Mach.fit { M with fr:=hiB M.fr n } from { h with fr:=zlF h.fr hn,main:=h.main })
 ·exact (show Mach.fit { M with fr:=loB M.fr n } from { h with fr:=zlG h.fr hn,main:=h.main })
 ·exact Mach.fit.of h ⟨h.main,h.aux,h.p0,h.p1,h.tr,h.tc,h.s,h.fr,zlF h.to hn,h.m0,h.m1⟩ ⟨rfl,rfl,rfl,rfl,rfl⟩ rfl ⟨rfl,rfl,rfl⟩ ⟨rfl,rfl⟩ (Or.inl rfl)
 ·exact Mach.fit.of h ⟨h.main,h.aux,h.p0,h.p1,h.tr,h.tc,h.s,h.fr,zlG h.to hn,h.m0,h.m1⟩ ⟨rfl,rfl,rfl,rfl,rfl⟩ rfl ⟨rfl,rfl,rfl⟩ ⟨rfl,rfl⟩ (Or.inl rfl)
theorem zov (i:Nat) (n:Int) (h:i≠14):tk.add (takes i n)=tk:=by unfold takes;rw [if_neg h,Tk.add_zero]
theorem zow (n:Int) (hn:0<=n/\n<=255) (htk:0<=tk.n/\tk.n<=1000000000000) (i:Nat) (hi:i<32):PutM F M tk i n:=by
 intro W h
 by_cases e14:i=14
 ·subst e14
  rw [show tk.add (takes 14 n)=tk.add (2*n) from rfl]
  exact zl9 _ _ h (λW h=>zlY h n hn htk)
 rw [zov i n e14]
 have hc:i=0 \/ i=1 \/ i=2 \/ i=3 \/ i=4 \/ i=5 \/ i=6 \/ i=7 \/ i=8 \/ i=9 \/ i=10 \/ i=11 \/ i=12 \/ i=13 \/ i=15 \/ i=16 \/ i=17 \/ i=18 \/ i=19 \/ i=20 \/ i=21 \/ i=22 \/ i=23 \/ i=24 \/ i=25 \/ i=26 \/ i=27 \/ i=28 \/ i=29 \/ i=30 \/ i=31:=by omega
 clear e14 hi
 rcases hc with rfl|rfl|rfl|rfl|rfl|rfl|rfl|rfl|rfl|rfl|rfl|rfl|rfl|rfl|rfl|rfl|rfl|rfl|rfl|rfl|rfl|rfl|rfl|rfl|rfl|rfl|rfl|rfl|rfl|rfl|rfl
 ·exact zl6 _ _ h (λW h=>zl5 h n hn)
 ·exact zap _ _ h
 ·exact zdX _ _ _ h (λW h=>zdV h _ 41 M.t.r n .h2 rfl h.fit.tr hn (by omega) rfl ⟨rfl,rfl,rfl,rfl,rfl⟩ (zck h.fit hn (by omega)))
 ·exact zdY _ _ _ h (λW h=>zgf h _ 41 M.t.r n .h3 rfl h.fit.tr hn (by omega) rfl ⟨rfl,rfl,rfl,rfl,rfl⟩ (zck h.fit hn (by omega)))
 ·exact zl7 _ _ h (λW h=>zjS h n hn)
 ·exact zap _ _ h
 ·exact zap _ _ h
 ·exact zap _ _ h
 ·exact zl8 _ _ h (λW h=>zlH h n)
 ·exact zap _ _ h
 ·exact zdX _ _ _ h (λW h=>zdV h _ 65 M.fr n .h10 rfl h.fit.fr hn (by omega) rfl ⟨rfl,rfl,rfl,rfl,rfl⟩ (zck h.fit hn (by omega)))
 ·exact zdY _ _ _ h (λW h=>zgf h _ 65 M.fr n .h11 rfl h.fit.fr hn (by omega) rfl ⟨rfl,rfl,rfl,rfl,rfl⟩ (zck h.fit hn (by omega)))
 ·exact zdX _ _ _ h (λW h=>zdV h _ 66 M.to n .h12 rfl h.fit.to hn (by omega) rfl ⟨rfl,rfl,rfl,rfl,rfl⟩ (zck h.fit hn (by omega)))
 ·exact zdY _ _ _ h (λW h=>zgf h _ 66 M.to n .h13 rfl h.fit.to hn (by omega) rfl ⟨rfl,rfl,rfl,rfl,rfl⟩ (zck h.fit hn (by omega)))
 ·exact zap _ _ h
 ·exact zma _ _ h (λW h=>zof h n hn)
 ·exact zmb _ _ h (λW h=>zlI h n hn)
 ·exact zap _ _ h
 ·exact zap _ _ h
 ·exact zap _ _ h
 ·exact zap _ _ h
 ·exact zap _ _ h
 ·exact zap _ _ h
 ·exact zap _ _ h
 ·exact zap _ _ h
 ·exact zap _ _ h
 ·exact zap _ _ h
 ·exact zap _ _ h
 ·exact zap _ _ h
 ·exact zap _ _ h
 ·exact zap _ _ h
theorem endC {e:Ending} {w':World} (h:e = .returned (.tuple #[])/\Bd F w' M' tk/\Bt F W w') {l:List Wt} (hl:l=[]):e = .returned (.tuple #[])/\(∃ v,Bd F w' M' (tk.app l v))/\Bw F W w':=⟨h.1,endA h.2.1 hl h.2.2⟩
theorem zox (n:Int) (hn:0<=n/\n<=255) (hl:tk.l.length<=1000000000) (i:Nat) (hi:i<32):PutA F M tk i n:=by
 intro W h
 unfold Fx.wrA Mach.putA shown
 by_cases e:i<24
 ·rw [if_pos e,if_pos e,if_pos e]
  exact zmd _ _ _ _ h (λW h=>zjV h i e n hn hl)
 ·rw [if_neg e,if_neg e,if_neg e]
  by_cases e2:i=24
  ·rw [if_pos e2,if_pos e2]
   exact (zmc _ _ _ h (λW h=>zlJ h n hn)).mono (λ_ _ hx=>endC hx rfl)
  ·rw [if_neg e2,if_neg e2]
   exact (zap _ _ h).mono (λ_ _ hx=>endC hx rfl)
end
theorem zdZ (g o:Nat) (w:World):Calls Tryz.prog 164 #[pt g o] w λe w'=>e = .returned (fval 218 #[pt w.heap.size 0])/\w'=w.alloc (.cells #[pt g o] 211):=by
 go_enter Tryz.func164,Tryz.ntmps164
 go_wp2
 go_ret
 exact ⟨rfl,rfl⟩
theorem zgl (g o:Nat) (w:World):Calls Tryz.prog 165 #[pt g o] w λe w'=>e = .returned (fval 219 #[pt w.heap.size 0])/\w'=w.alloc (.cells #[pt g o] 211):=by
 go_enter Tryz.func165,Tryz.ntmps165
 go_wp2
 go_ret
 exact ⟨rfl,rfl⟩
theorem zjb (g:Nat) (i:Int) (w:World):Calls Tryz.prog 162 #[pt g 0,.int .i64 i] w λe w'=>e = .returned (fval 215 #[pt w.heap.size 0,pt (w.heap.size+1) 0])/\w'=(w.alloc (.cells #[pt g 0] 91)).alloc (.cells #[.int .i64 i] 3):=by
 go_enter Tryz.func162,Tryz.ntmps162
 go_wp2
 go_ret
 exact ⟨rfl,rfl⟩
theorem zjW (g:Nat) (i:Int) (w:World):Calls Tryz.prog 179 #[pt g 0,.int .i64 i] w λe w'=>e = .returned (fval 222 #[pt w.heap.size 0,pt (w.heap.size+1) 0])/\w'=(w.alloc (.cells #[pt g 0] 91)).alloc (.cells #[.int .i64 i] 3):=by
 go_enter Tryz.func179,Tryz.ntmps179
 go_wp2
 go_ret
 exact ⟨rfl,rfl⟩
theorem zbq:(Tryz.prog.info? 130).map (·.size)=some 64:=by kernel_rfl
def sl0:Sl:=⟨.nilFunc,.nilFunc,.nilFunc,.nilFunc,.nilFunc⟩
def fxE (g:Nat) (E:Env):Fx:=⟨0,g,0,0,0,0,0,sl0,E⟩
def EnvM (g:Nat) (E:Env) (W:World):Prop:=Bx W E.mb [pt g 0]/\Bx W E.q0 [pt g 0]/\Bx W E.w0 [.int .i64 0]/\Bx W E.q1 [pt g 0]/\Bx W E.w1 [.int .i64 1]/\Bx W E.h2 [pt g 41]/\Bx W E.h3 [pt g 41]/\Bx W E.h10 [pt g 65]/\Bx W E.h11 [pt g 65]/\Bx W E.h12 [pt g 66]/\Bx W E.h13 [pt g 66]
def EnvM.lo (n:Nat) (E:Env):Prop:=n<E.mb/\n<E.q0/\n<E.w0/\n<E.q1/\n<E.w1/\n<E.h2/\n<E.h3/\n<E.h10/\n<E.h11/\n<E.h12/\n<E.h13
def mE (n:Nat):Env:=⟨n+1,n+2,n+3,n+4,n+5,n+6,n+7,n+8,n+9,n+10,n+11,0,λ_=>0,λ_=>0⟩
def nil64:List Value:=List.replicate 64 .nilFunc
theorem zjX {Y:World} {b:Nat} {L:List Value} (hl:L.length=64) (h:Bx Y b L):(loadVar 130 ⟨b,0,none⟩).run Tryz.prog Y = .ok (.agg L.toArray) Y :=
 run_loadVar_mid Y b 0 130 _ _ h.c Tryz.underlying130 rfl (zbq.trans (by rw [hl]))
def mpL (g:Nat) (w:World):List Value:=[fval 215 #[pt (w.heap.size+2) 0,pt (w.heap.size+3) 0],mval 163 g 0,fval 215 #[pt (w.heap.size+4) 0,pt (w.heap.size+5) 0],.nilFunc,.nilFunc,fval 218 #[pt (w.heap.size+6) 0],.nilFunc,fval 219 #[pt (w.heap.size+7) 0],mval 166 g 0,mval 167 g 0,.nilFunc,.nilFunc,fval 168 #[pt (w.heap.size+1) 0],.nilFunc,fval 169 #[pt (w.heap.size+1) 0],.nilFunc,mval 170 g 0,mval 171 g 0,.nilFunc,.nilFunc,.nilFunc,fval 218 #[pt (w.heap.size+8) 0],.nilFunc,fval 219 #[pt (w.heap.size+9) 0],.nilFunc,fval 218 #[pt (w.heap.size+10) 0],.nilFunc,fval 219 #[pt (w.heap.size+11) 0],.nilFunc,mval 172 g 0,.nilFunc,.nilFunc,mval 173 g 0,mval 174 g 0,fval 175 #[pt (w.heap.size+1) 0],mval 176 g 0,.nilFunc,.nilFunc,.nilFunc,.nilFunc,.nilFunc,.nilFunc,.nilFunc,.nilFunc,.nilFunc,.nilFunc,.nilFunc,.nilFunc,.nilFunc,.nilFunc,.nilFunc,.nilFunc,.nilFunc,.nilFunc,.nilFunc,.nilFunc,.nilFunc,.nilFunc,.nilFunc,.nilFunc,.nilFunc,.nilFunc,.nilFunc,.nilFunc]
theorem zpE (g:Nat) (w:World):mpL g w=portsN (fxE g (mE w.heap.size)).rdM (fxE g (mE w.heap.size)).wrM 32:=by kernel_rfl
theorem oneR (F:Fx) (i:Nat):(F.rdM i).oneCell'=true:=by unfold Fx.rdM;split <;> rfl
theorem oneW (F:Fx) (i:Nat):(F.wrM i).oneCell'=true:=by unfold Fx.wrM;split <;> rfl
theorem zcQ (r w:Nat->Value) (v:Value):∀ n,v∈portsN r w n->∃ i,v=r i \/ v=w i
 | 0,h=>by simp [portsN] at h
 | n+1,h=>by
  simp only [portsN,List.mem_append,List.mem_cons,List.not_mem_nil,or_false] at h
  rcases h with h|h|h
  ·exact zcQ r w v n h
  ·exact ⟨n,Or.inl h⟩
  ·exact ⟨n,Or.inr h⟩
theorem zqz (g:Nat) (w:World):∀ v∈mpL g w,v.oneCell'=true:=λv hv=>by
 rw [zpE] at hv
 obtain ⟨i,rfl|rfl⟩:=zcQ _ _ v 32 hv
 ·exact oneR _ _
 ·exact oneW _ _
theorem zb2 {W w':World} {b c:Nat} {v:Value} (h:W.cell? ⟨c,0,none⟩=some v/\W.there b 0 64) (hb:b<W.heap.size) (hc:c<W.heap.size) (hl:Below W.heap.size W w'):w'.cell? ⟨c,0,none⟩=some v/\w'.there b 0 64 :=
 ⟨(hl.cell (p:=⟨c,0,none⟩) hc).trans h.1,zbC h.2 hl hb⟩
theorem zoy (L L':List Value) (h:L'.length=L.length):putL L 0 L'=L':=by
 have:=zbn [] L' L [] h
 simpa using this
theorem zme (g:Nat) (w:World):(mpL g w).length=64:=rfl
theorem zr2 (g:Nat) (w:World) {Y:World} {b:Nat} (h:Bx Y b nil64):Bx (Y.setCells b 0 (mpL g w).toArray.toList) b (mpL g w):=by
 have hx:=h.puts 0 (mpL g w) (by rw [zme];simp [nil64])
 rw [zoy _ _ (by rw [zme];simp [nil64])] at hx
 exact hx
theorem zqA {W:World} {n:Nat} {v:Value} {vs:List Value} (h:W.cell? ⟨n+1,0,none⟩=some v/\W.there n 0 64):(W.setCells n 0 vs).cell? ⟨n+1,0,none⟩=some v/\(W.setCells n 0 vs).there n 0 64 :=
 ⟨(World.cell?_of_block (zad (x:=n+1) (b:=n) (by omega) _ _ _)).trans h.1,World.there_setCells h.2 _ _ _⟩
theorem zgm (g:Nat) (w:World):Calls Tryz.prog 88 #[pt g 0] w λe w' =>
 e = .returned (.agg (portsN (fxE g (mE w.heap.size)).rdM (fxE g (mE w.heap.size)).wrM 32).toArray)/\Below w.heap.size w w'/\EnvM g (mE w.heap.size) w':=by
 go_enter Tryz.func88,Tryz.ntmps88
 go_wp2
 try simp only [List.append]
 refine wp_region_held_drew (S:=λw'=>w'.cell? ⟨w.heap.size+1,0,none⟩=some (pt g 0)/\w'.there w.heap.size 0 64) (by kernel_rfl) ⟨by simp,World.there_alloc (zaR w _ _ 64 _ rfl rfl) _⟩ ?_
 intro hS
 refine tqK 0 ⟨some 7,_,_,_,_,none⟩ hS ?_
 simp only [Act.put,xA,xB,xC]
 refine tqK 2 ⟨some 9,_,_,_,_,none⟩ hS ?_
 simp only [Act.put,xA,xB,xC]
 refine tqK 3 ⟨some 10,_,_,_,_,none⟩ hS ?_
 simp only [Act.put,xA,xB,xC]
 refine tqK 5 ⟨some 12,_,_,_,_,none⟩ hS ?_
 simp only [Act.put,xA,xB,xC]
 refine tqK 8 ⟨some 15,_,_,_,_,none⟩ hS ?_
 simp only [Act.put,xA,xB,xC]
 refine tqK 9 ⟨some 16,_,_,_,_,none⟩ hS ?_
 simp only [Act.put,xA,xB,xC]
 refine tqK 10 ⟨some 17,_,_,_,_,none⟩ hS ?_
 simp only [Act.put,xA,xB,xC]
 refine tqK 11 ⟨some 18,_,_,_,_,none⟩ hS ?_
 simp only [Act.put,xA,xB,xC]
 refine tqK 14 ⟨some 21,_,_,_,_,none⟩ hS ?_
 simp only [Act.put,xA,xB,xC]
 refine tqK 15 ⟨some 22,_,_,_,_,none⟩ hS ?_
 simp only [Act.put,xA,xB,xC]
 refine tqK 16 ⟨some 23,_,_,_,_,none⟩ hS ?_
 simp only [Act.put,xA,xB,xC]
 refine tqK 17 ⟨some 24,_,_,_,_,none⟩ hS ?_
 simp only [Act.put,xA,xB,xC]
 refine tqK 20 ⟨some 27,_,_,_,_,none⟩ hS ?_
 simp only [Act.put,xA,xB,xC]
 refine tqK 21 ⟨some 28,_,_,_,_,none⟩ hS ?_
 simp only [Act.put,xA,xB,xC]
 refine tqK 22 ⟨some 29,_,_,_,_,none⟩ hS ?_
 simp only [Act.put,xA,xB,xC]
 refine tqK 23 ⟨some 30,_,_,_,_,none⟩ hS ?_
 simp only [Act.put,xA,xB,xC]
 refine tqK 24 ⟨some 31,_,_,_,_,none⟩ hS ?_
 simp only [Act.put,xA,xB,xC]
 refine tqK 25 ⟨some 32,_,_,_,_,none⟩ hS ?_
 simp only [Act.put,xA,xB,xC]
 refine tqK 26 ⟨some 33,_,_,_,_,none⟩ hS ?_
 simp only [Act.put,xA,xB,xC]
 refine tqK 27 ⟨some 34,_,_,_,_,none⟩ hS ?_
 simp only [Act.put,xA,xB,xC]
 refine tqK 28 ⟨some 35,_,_,_,_,none⟩ hS ?_
 simp only [Act.put,xA,xB,xC]
 refine tqK 29 ⟨some 36,_,_,_,_,none⟩ hS ?_
 simp only [Act.put,xA,xB,xC]
 refine tqK 30 ⟨some 37,_,_,_,_,none⟩ hS ?_
 simp only [Act.put,xA,xB,xC]
 refine tqK 31 ⟨some 38,_,_,_,_,none⟩ hS ?_
 simp only [Act.put,xA,xB,xC]
 refine tqK 32 ⟨some 39,_,_,_,_,none⟩ hS ?_
 simp only [Act.put,xA,xB,xC]
 refine tqK 33 ⟨some 40,_,_,_,_,none⟩ hS ?_
 simp only [Act.put,xA,xB,xC]
 refine tqK 34 ⟨some 41,_,_,_,_,none⟩ hS ?_
 simp only [Act.put,xA,xB,xC]
 refine tqK 35 ⟨some 42,_,_,_,_,none⟩ hS ?_
 simp only [Act.put,xA,xB,xC]
 refine tqK 36 ⟨some 43,_,_,_,_,none⟩ hS ?_
 simp only [Act.put,xA,xB,xC]
 refine tqK 39 ⟨some 46,_,_,_,_,none⟩ hS ?_
 simp only [Act.put,xA,xB,xC]
 refine tqK 40 ⟨some 47,_,_,_,_,none⟩ hS ?_
 simp only [Act.put,xA,xB,xC]
 refine tqK 41 ⟨some 48,_,_,_,_,none⟩ hS ?_
 simp only [Act.put,xA,xB,xC]
 refine tqK 44 ⟨some 51,_,_,_,_,none⟩ hS ?_
 simp only [Act.put,xA,xB,xC]
 refine tqK 45 ⟨some 52,_,_,_,_,none⟩ hS ?_
 simp only [Act.put,xA,xB,xC]
 refine tqK 46 ⟨some 53,_,_,_,_,none⟩ hS ?_
 simp only [Act.put,xA,xB,xC]
 refine tqK 49 ⟨some 56,_,_,_,_,none⟩ hS ?_
 simp only [Act.put,xA,xB,xC]
 refine tqK 50 ⟨some 57,_,_,_,_,none⟩ hS ?_
 simp only [Act.put,xA,xB,xC]
 refine tqK 51 ⟨some 58,_,_,_,_,none⟩ hS ?_
 simp only [Act.put,xA,xB,xC]
 refine tqK 54 ⟨some 61,_,_,_,_,none⟩ hS ?_
 simp only [Act.put,xA,xB,xC]
 refine tqK 55 ⟨some 62,_,_,_,_,none⟩ hS ?_
 simp only [Act.put,xA,xB,xC]
 refine tqK 56 ⟨some 63,_,_,_,_,none⟩ hS ?_
 simp only [Act.put,xA,xB,xC]
 refine tqK 57 ⟨some 64,_,_,_,_,none⟩ hS ?_
 simp only [Act.put,xA,xB,xC]
 refine tqK 58 ⟨some 65,_,_,_,_,none⟩ hS ?_
 simp only [Act.put,xA,xB,xC]
 refine tqK 59 ⟨some 66,_,_,_,_,none⟩ hS ?_
 simp only [Act.put,xA,xB,xC]
 refine tqK 60 ⟨some 67,_,_,_,_,none⟩ hS ?_
 simp only [Act.put,xA,xB,xC]
 refine tqK 61 ⟨some 68,_,_,_,_,none⟩ hS ?_
 simp only [Act.put,xA,xB,xC]
 refine tqK 62 ⟨some 69,_,_,_,_,none⟩ hS ?_
 simp only [Act.put,xA,xB,xC]
 refine tqK 63 ⟨some 70,_,_,_,_,none⟩ hS ?_
 simp only [Act.put,xA,xB,xC]
 refine tqK 64 ⟨some 71,_,_,_,_,none⟩ hS ?_
 simp only [Act.put,xA,xB,xC]
 refine tqK 65 ⟨some 72,_,_,_,_,none⟩ hS ?_
 simp only [Act.put,xA,xB,xC]
 refine wpAnyH_ready (rs:=[1]) (by kernel_rfl) (by simp) ?_
 refine AllReadyH.cons (o:=⟨some 8,_,_,_,_,none⟩) rfl (λK hK=>?_) AllReadyH.nil
 go_simp
 go_at_call 162
 refine (zjb g _ _).mono ?_
 rintro e w1 ⟨rfl,rfl⟩
 try go_wp2_with fail
 refine hK.out _ _ (zb2 hS (by first|(simp;done)|(simp;omega)) (by first|(simp;done)|(simp;omega)) (stA (stA (st0 _) _) _)) (λhS'=>?_)
 clear hK K hS
 have hS:=hS'
 clear hS'
 try simp only [Act.put,xA,xB,xC]
 refine tqK 4 ⟨some 11,_,_,_,_,none⟩ hS ?_
 simp only [Act.put,xA,xB,xC]
 refine wpAnyH_ready (rs:=[6]) (by kernel_rfl) (by simp) ?_
 refine AllReadyH.cons (o:=⟨some 13,_,_,_,_,none⟩) rfl (λK hK=>?_) AllReadyH.nil
 go_simp
 go_at_call 162
 refine (zjb g _ _).mono ?_
 rintro e w1 ⟨rfl,rfl⟩
 try go_wp2_with fail
 refine hK.out _ _ (zb2 hS (by first|(simp;done)|(simp;omega)) (by first|(simp;done)|(simp;omega)) (stA (stA (st0 _) _) _)) (λhS'=>?_)
 clear hK K hS
 have hS:=hS'
 clear hS'
 try simp only [Act.put,xA,xB,xC]
 refine tqK 7 ⟨some 14,_,_,_,_,none⟩ hS ?_
 simp only [Act.put,xA,xB,xC]
 refine wpAnyH_ready (rs:=[12]) (by kernel_rfl) (by simp) ?_
 refine AllReadyH.cons (o:=⟨some 19,_,_,_,_,none⟩) rfl (λK hK=>?_) AllReadyH.nil
 go_simp
 go_at_call 164
 refine (zdZ g _ _).mono ?_
 rintro e w1 ⟨rfl,rfl⟩
 try go_wp2_with fail
 refine hK.out _ _ (zb2 hS (by first|(simp;done)|(simp;omega)) (by first|(simp;done)|(simp;omega)) (stA (st0 _) _)) (λhS'=>?_)
 clear hK K hS
 have hS:=hS'
 clear hS'
 try simp only [Act.put,xA,xB,xC]
 refine tqK 13 ⟨some 20,_,_,_,_,none⟩ hS ?_
 simp only [Act.put,xA,xB,xC]
 refine wpAnyH_ready (rs:=[18]) (by kernel_rfl) (by simp) ?_
 refine AllReadyH.cons (o:=⟨some 25,_,_,_,_,none⟩) rfl (λK hK=>?_) AllReadyH.nil
 go_simp
 go_at_call 165
 refine (zgl g _ _).mono ?_
 rintro e w1 ⟨rfl,rfl⟩
 try go_wp2_with fail
 refine hK.out _ _ (zb2 hS (by first|(simp;done)|(simp;omega)) (by first|(simp;done)|(simp;omega)) (stA (st0 _) _)) (λhS'=>?_)
 clear hK K hS
 have hS:=hS'
 clear hS'
 try simp only [Act.put,xA,xB,xC]
 refine tqK 19 ⟨some 26,_,_,_,_,none⟩ hS ?_
 simp only [Act.put,xA,xB,xC]
 refine wpAnyH_ready (rs:=[37]) (by kernel_rfl) (by simp) ?_
 refine AllReadyH.cons (o:=⟨some 44,_,_,_,_,none⟩) rfl (λK hK=>?_) AllReadyH.nil
 go_simp
 go_at_call 164
 refine (zdZ g _ _).mono ?_
 rintro e w1 ⟨rfl,rfl⟩
 try go_wp2_with fail
 refine hK.out _ _ (zb2 hS (by first|(simp;done)|(simp;omega)) (by first|(simp;done)|(simp;omega)) (stA (st0 _) _)) (λhS'=>?_)
 clear hK K hS
 have hS:=hS'
 clear hS'
 try simp only [Act.put,xA,xB,xC]
 refine tqK 38 ⟨some 45,_,_,_,_,none⟩ hS ?_
 simp only [Act.put,xA,xB,xC]
 refine wpAnyH_ready (rs:=[42]) (by kernel_rfl) (by simp) ?_
 refine AllReadyH.cons (o:=⟨some 49,_,_,_,_,none⟩) rfl (λK hK=>?_) AllReadyH.nil
 go_simp
 go_at_call 165
 refine (zgl g _ _).mono ?_
 rintro e w1 ⟨rfl,rfl⟩
 try go_wp2_with fail
 refine hK.out _ _ (zb2 hS (by first|(simp;done)|(simp;omega)) (by first|(simp;done)|(simp;omega)) (stA (st0 _) _)) (λhS'=>?_)
 clear hK K hS
 have hS:=hS'
 clear hS'
 try simp only [Act.put,xA,xB,xC]
 refine tqK 43 ⟨some 50,_,_,_,_,none⟩ hS ?_
 simp only [Act.put,xA,xB,xC]
 refine wpAnyH_ready (rs:=[47]) (by kernel_rfl) (by simp) ?_
 refine AllReadyH.cons (o:=⟨some 54,_,_,_,_,none⟩) rfl (λK hK=>?_) AllReadyH.nil
 go_simp
 go_at_call 164
 refine (zdZ g _ _).mono ?_
 rintro e w1 ⟨rfl,rfl⟩
 try go_wp2_with fail
 refine hK.out _ _ (zb2 hS (by first|(simp;done)|(simp;omega)) (by first|(simp;done)|(simp;omega)) (stA (st0 _) _)) (λhS'=>?_)
 clear hK K hS
 have hS:=hS'
 clear hS'
 try simp only [Act.put,xA,xB,xC]
 refine tqK 48 ⟨some 55,_,_,_,_,none⟩ hS ?_
 simp only [Act.put,xA,xB,xC]
 refine wpAnyH_ready (rs:=[52]) (by kernel_rfl) (by simp) ?_
 refine AllReadyH.cons (o:=⟨some 59,_,_,_,_,none⟩) rfl (λK hK=>?_) AllReadyH.nil
 go_simp
 go_at_call 165
 refine (zgl g _ _).mono ?_
 rintro e w1 ⟨rfl,rfl⟩
 try go_wp2_with fail
 refine hK.out _ _ (zb2 hS (by first|(simp;done)|(simp;omega)) (by first|(simp;done)|(simp;omega)) (stA (st0 _) _)) (λhS'=>?_)
 clear hK K hS
 have hS:=hS'
 clear hS'
 try simp only [Act.put,xA,xB,xC]
 refine tqK 53 ⟨some 60,_,_,_,_,none⟩ hS ?_
 simp only [Act.put,xA,xB,xC]
 refine tqK 66 ⟨some 73,_,_,_,_,none⟩ hS ?_
 simp only [Act.put,xA,xB,xC]
 refine wpAnyH_ready (rs:=[67]) (by kernel_rfl) (by simp) ?_
 refine AllReadyH.cons (o:=⟨none,_,_,_,_,none⟩) rfl (λK hK=>?_) AllReadyH.nil
 refine zao rfl 130 _ _ rfl w.heap.size 0 (mpL g w).toArray rfl rfl hS.2 zbq (all_oneCell_toArray (zqz g w)) ?_
 refine hK.out _ _ (zqA hS) (λ_=>?_)
 clear hK K
 refine wpAnyH_done (by kernel_rfl) ?_ _
 refine Pl.cutE (λY=>Below w.heap.size w Y/\Bx Y w.heap.size (mpL g w)/\EnvM g (mE w.heap.size) Y) ⟨?_,?_,?_⟩ ?_
 ·refine Bl.puts ?_ (Nat.le_refl _) _
  repeat' (first|exact st0 _|refine Below.drew ?_|refine stA ?_ _)
 ·refine zr2 g w ?_
  repeat' (first|exact Bx.new _ nil64 _ rfl|refine Bx.drew ?_|refine Bx.over ?_ _)
 ·refine ⟨?_,?_,?_,?_,?_,?_,?_,?_,?_,?_,?_⟩
  all_goals refine Bx.fars ?_ (by show w.heap.size≠w.heap.size+_;omega) 0 _
  all_goals repeat' (first|exact Bx.new _ _ _ (by simp;rfl)|refine Bx.drew ?_|refine Bx.over ?_ _)
 rintro Y ⟨hY1,hY2,hY3⟩
 have HY1:=hid hY1
 have HY2:=hid hY2
 have HY3:=hid hY3
 clear hY1 hY2 hY3 hS
 go_wp2
 rw [zpE] at HY2
 exact bodyPost_ret (v:=.agg _) (by simp only [results,Tryz.results88];simp;exact Pl.res (zjX (by rw [zaD]) HY2.out)) rfl ⟨rfl,HY1.out,HY3.out⟩
end Go.Proofs.YtbennamieealbaaGreatDoor
