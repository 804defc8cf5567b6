/-
  Parts of a proof, joined.
-/
import Derived.Test.YtbhpfkjfijdmaaaGreatDoorZv14
import Derived.Test.YtbhpfkjfijdmaaaGreatDoorZv15
import Derived.Test.YtbhpfkjfijdmaaaGreatDoorZv16
import Derived.Test.YtbhpfkjfijdmaaaGreatDoorZv21
import Derived.Test.YtbhpfkjfijdmaaaGreatDoorZv13
namespace Go.Proofs.YtbhpfkjfijdmaaaGreatDoor
open Go.ChangeShapes Go.WideShapes Go.ChangeAt Go.RowKit
set_option linter.unusedVariables false
set_option maxRecDepth 100000
set_option maxHeartbeats 1600000
section
variable {F : Fx} {W : World} {M M' : Mach} {tk tk' : Tk}
theorem ne_g (n:Nat) (a b:Array Value) (w:World):(binOp .neq 127 (.func (.func n) a b) .nilFunc).run Tryz.prog w = .ok (.bool true) w:=by kernel_rfl
theorem ne_gn (w:World):(binOp .neq 127 .nilFunc .nilFunc).run Tryz.prog w = .ok (.bool false) w:=by kernel_rfl
theorem Bu.put_nil (vr:Value) (n:Int) (h:Bd F W M tk):Calls Tryz.prog 137 #[.agg #[vr,.nilFunc],.int .u8 n] W fun e w'=>e = .returned (.tuple #[])/\Bd F w' M tk/\Bt F W w':=by
 have hn:=ne_gn
 have H:=hid h
 clear h
 go_enter Tryz.func137,Tryz.ntmps137
 go_wp2
 go_end0
 exact ⟨rfl,H.out.over _,Mv.of_below H.out.big (stA (st0 _) _)⟩
theorem Bu.put_wp (vr:Value) (n:Int) (h:Bd F W M tk) (hc:∀ W,Bd F W M tk->Calls Tryz.prog 115 #[pt F.g 0,.int .u8 n] W fun e w'=>e = .returned (.tuple #[])/\Bd F w' M' tk'/\Bt F W w') :
 Calls Tryz.prog 137 #[.agg #[vr,mval 115 F.g 0],.int .u8 n] W fun e w'=>e = .returned (.tuple #[])/\Bd F w' M' tk'/\Bt F W w':=by
 have hn:∀ w:World,(binOp .neq 127 (mval 115 F.g 0) .nilFunc).run Tryz.prog w = .ok (.bool true) w:=fun w=>ne_g _ _ _ w
 have H:=hid h
 have HC:=hid hc
 clear h hc
 go_enter Tryz.func137,Tryz.ntmps137
 go_wp2_with (go_at_call 115;refine (HC.out _ (H.out.over _)).mono ?_;rintro e w1 ⟨rfl,hB,hT⟩)
 go_end0
 exact ⟨rfl,hB,Mv.trans (Mv.of_below H.out.big (stA (st0 _) _)) hT⟩
theorem Bu.put_wt (vr:Value) (n:Int) (h:Bd F W M tk) (hc:∀ W,Bd F W M tk->Calls Tryz.prog 119 #[pt F.g 0,.int .u8 n] W fun e w'=>e = .returned (.tuple #[])/\Bd F w' M' tk'/\Bt F W w') :
 Calls Tryz.prog 137 #[.agg #[vr,mval 119 F.g 0],.int .u8 n] W fun e w'=>e = .returned (.tuple #[])/\Bd F w' M' tk'/\Bt F W w':=by
 have hn:∀ w:World,(binOp .neq 127 (mval 119 F.g 0) .nilFunc).run Tryz.prog w = .ok (.bool true) w:=fun w=>ne_g _ _ _ w
 have H:=hid h
 have HC:=hid hc
 clear h hc
 go_enter Tryz.func137,Tryz.ntmps137
 go_wp2_with (go_at_call 119;refine (HC.out _ (H.out.over _)).mono ?_;rintro e w1 ⟨rfl,hB,hT⟩)
 go_end0
 exact ⟨rfl,hB,Mv.trans (Mv.of_below H.out.big (stA (st0 _) _)) hT⟩
theorem Bu.put_wb (vr:Value) (n:Int) (h:Bd F W M tk) (hc:∀ W,Bd F W M tk->Calls Tryz.prog 123 #[pt F.g 0,.int .u8 n] W fun e w'=>e = .returned (.tuple #[])/\Bd F w' M' tk'/\Bt F W w') :
 Calls Tryz.prog 137 #[.agg #[vr,mval 123 F.g 0],.int .u8 n] W fun e w'=>e = .returned (.tuple #[])/\Bd F w' M' tk'/\Bt F W w':=by
 have hn:∀ w:World,(binOp .neq 127 (mval 123 F.g 0) .nilFunc).run Tryz.prog w = .ok (.bool true) w:=fun w=>ne_g _ _ _ w
 have H:=hid h
 have HC:=hid hc
 clear h hc
 go_enter Tryz.func137,Tryz.ntmps137
 go_wp2_with (go_at_call 123;refine (HC.out _ (H.out.over _)).mono ?_;rintro e w1 ⟨rfl,hB,hT⟩)
 go_end0
 exact ⟨rfl,hB,Mv.trans (Mv.of_below H.out.big (stA (st0 _) _)) hT⟩
theorem Bu.put_xf (vr:Value) (n:Int) (h:Bd F W M tk) (hc:∀ W,Bd F W M tk->Calls Tryz.prog 124 #[pt F.g 0,.int .u8 n] W fun e w'=>e = .returned (.tuple #[])/\Bd F w' M' tk'/\Bt F W w') :
 Calls Tryz.prog 137 #[.agg #[vr,mval 124 F.g 0],.int .u8 n] W fun e w'=>e = .returned (.tuple #[])/\Bd F w' M' tk'/\Bt F W w':=by
 have hn:∀ w:World,(binOp .neq 127 (mval 124 F.g 0) .nilFunc).run Tryz.prog w = .ok (.bool true) w:=fun w=>ne_g _ _ _ w
 have H:=hid h
 have HC:=hid hc
 clear h hc
 go_enter Tryz.func137,Tryz.ntmps137
 go_wp2_with (go_at_call 124;refine (HC.out _ (H.out.over _)).mono ?_;rintro e w1 ⟨rfl,hB,hT⟩)
 go_end0
 exact ⟨rfl,hB,Mv.trans (Mv.of_below H.out.big (stA (st0 _) _)) hT⟩
theorem Bu.put_wa (vr:Value) (n:Int) (h:Bd F W M tk) (hc:∀ W,Bd F W M tk->Calls Tryz.prog 126 #[pt F.g 0,.int .u8 n] W fun e w'=>e = .returned (.tuple #[])/\Bd F w' M' tk'/\Bt F W w') :
 Calls Tryz.prog 137 #[.agg #[vr,mval 126 F.g 0],.int .u8 n] W fun e w'=>e = .returned (.tuple #[])/\Bd F w' M' tk'/\Bt F W w':=by
 have hn:∀ w:World,(binOp .neq 127 (mval 126 F.g 0) .nilFunc).run Tryz.prog w = .ok (.bool true) w:=fun w=>ne_g _ _ _ w
 have H:=hid h
 have HC:=hid hc
 clear h hc
 go_enter Tryz.func137,Tryz.ntmps137
 go_wp2_with (go_at_call 126;refine (HC.out _ (H.out.over _)).mono ?_;rintro e w1 ⟨rfl,hB,hT⟩)
 go_end0
 exact ⟨rfl,hB,Mv.trans (Mv.of_below H.out.big (stA (st0 _) _)) hT⟩
theorem Bu.put_sm (vr:Value) (n:Int) (h:Bd F W M tk) (hc:∀ W,Bd F W M tk->Calls Tryz.prog 128 #[pt F.g 0,.int .u8 n] W fun e w'=>e = .returned (.tuple #[])/\Bd F w' M' tk'/\Bt F W w') :
 Calls Tryz.prog 137 #[.agg #[vr,mval 128 F.g 0],.int .u8 n] W fun e w'=>e = .returned (.tuple #[])/\Bd F w' M' tk'/\Bt F W w':=by
 have hn:∀ w:World,(binOp .neq 127 (mval 128 F.g 0) .nilFunc).run Tryz.prog w = .ok (.bool true) w:=fun w=>ne_g _ _ _ w
 have H:=hid h
 have HC:=hid hc
 clear h hc
 go_enter Tryz.func137,Tryz.ntmps137
 go_wp2_with (go_at_call 128;refine (HC.out _ (H.out.over _)).mono ?_;rintro e w1 ⟨rfl,hB,hT⟩)
 go_end0
 exact ⟨rfl,hB,Mv.trans (Mv.of_below H.out.big (stA (st0 _) _)) hT⟩
theorem Bu.put_hi (vr:Value) (n:Int) (q:Nat) (h:Bd F W M tk) (hc:∀ W,Bd F W M tk->Calls Tryz.prog 163 #[.int .u8 n,pt q 0] W fun e w'=>e = .returned (.tuple #[])/\Bd F w' M' tk'/\Bt F W w') :
 Calls Tryz.prog 137 #[.agg #[vr,fval 163 #[pt q 0]],.int .u8 n] W fun e w'=>e = .returned (.tuple #[])/\Bd F w' M' tk'/\Bt F W w':=by
 have hn:∀ w:World,(binOp .neq 127 (fval 163 #[pt q 0]) .nilFunc).run Tryz.prog w = .ok (.bool true) w:=fun w=>ne_g _ _ _ w
 have H:=hid h
 have HC:=hid hc
 clear h hc
 go_enter Tryz.func137,Tryz.ntmps137
 go_wp2_with (go_at_call 163;refine (HC.out _ (H.out.over _)).mono ?_;rintro e w1 ⟨rfl,hB,hT⟩)
 go_end0
 exact ⟨rfl,hB,Mv.trans (Mv.of_below H.out.big (stA (st0 _) _)) hT⟩
theorem Bu.put_lo (vr:Value) (n:Int) (q:Nat) (h:Bd F W M tk) (hc:∀ W,Bd F W M tk->Calls Tryz.prog 164 #[.int .u8 n,pt q 0] W fun e w'=>e = .returned (.tuple #[])/\Bd F w' M' tk'/\Bt F W w') :
 Calls Tryz.prog 137 #[.agg #[vr,fval 164 #[pt q 0]],.int .u8 n] W fun e w'=>e = .returned (.tuple #[])/\Bd F w' M' tk'/\Bt F W w':=by
 have hn:∀ w:World,(binOp .neq 127 (fval 164 #[pt q 0]) .nilFunc).run Tryz.prog w = .ok (.bool true) w:=fun w=>ne_g _ _ _ w
 have H:=hid h
 have HC:=hid hc
 clear h hc
 go_enter Tryz.func137,Tryz.ntmps137
 go_wp2_with (go_at_call 164;refine (HC.out _ (H.out.over _)).mono ?_;rintro e w1 ⟨rfl,hB,hT⟩)
 go_end0
 exact ⟨rfl,hB,Mv.trans (Mv.of_below H.out.big (stA (st0 _) _)) hT⟩
theorem Bu.put_am (vr:Value) (n:Int) (q:Nat) (h:Bd F W M tk) (hc:∀ W,Bd F W M tk->Calls Tryz.prog 130 #[.int .u8 n,pt q 0] W fun e w'=>e = .returned (.tuple #[])/\Bd F w' M' tk'/\Bt F W w') :
 Calls Tryz.prog 137 #[.agg #[vr,fval 130 #[pt q 0]],.int .u8 n] W fun e w'=>e = .returned (.tuple #[])/\Bd F w' M' tk'/\Bt F W w':=by
 have hn:∀ w:World,(binOp .neq 127 (fval 130 #[pt q 0]) .nilFunc).run Tryz.prog w = .ok (.bool true) w:=fun w=>ne_g _ _ _ w
 have H:=hid h
 have HC:=hid hc
 clear h hc
 go_enter Tryz.func137,Tryz.ntmps137
 go_wp2_with (go_at_call 130;refine (HC.out _ (H.out.over _)).mono ?_;rintro e w1 ⟨rfl,hB,hT⟩)
 go_end0
 exact ⟨rfl,hB,Mv.trans (Mv.of_below H.out.big (stA (st0 _) _)) hT⟩
theorem Bu.put_sw (vr:Value) (n:Int) (q v:Nat) {l:List Wt} (h:Bd F W M tk) (hc:∀ W,Bd F W M tk->Calls Tryz.prog 167 #[.int .u8 n,pt q 0,pt v 0] W fun e w'=>e = .returned (.tuple #[])/\EndA F W w' M' tk l) :
 Calls Tryz.prog 137 #[.agg #[vr,fval 167 #[pt q 0,pt v 0]],.int .u8 n] W fun e w'=>e = .returned (.tuple #[])/\EndA F W w' M' tk l:=by
 have hn:∀ w:World,(binOp .neq 127 (fval 167 #[pt q 0,pt v 0]) .nilFunc).run Tryz.prog w = .ok (.bool true) w:=fun w=>ne_g _ _ _ w
 have H:=hid h
 have HC:=hid hc
 clear h hc
 go_enter Tryz.func137,Tryz.ntmps137
 go_wp2_with (go_at_call 167;refine (HC.out _ (H.out.over _)).mono ?_;rintro e w1 ⟨rfl,hB⟩)
 go_end0
 exact ⟨rfl,hB.1,(Bw.of_below H.out.big (stA (st0 _) _)).trans hB.2⟩
theorem putM_fit {k:Nat} {n:Int} (h:M.fit) (hn:0<=n/\n<=255) (hk:k=2 \/ k=3 \/ k=10 \/ k=11 \/ k=12 \/ k=13):(M.putM k n).fit:=by
 rcases hk with rfl | rfl | rfl | rfl | rfl | rfl
 ·exact (show Mach.fit { M with t:={ M.t with r:=hiB M.t.r n } } from { h with tr:=hiB_bd h.tr hn,tc:=h.tc,main:=h.main })
 ·exact (show Mach.fit { M with t:={ M.t with r:=loB M.t.r n } } from { h with tr:=loB_bd h.tr hn,tc:=h.tc,main:=h.main })
 ·exact (show Mach.fit { M with fr:=hiB M.fr n } from { h with fr:=hiB_bd h.fr hn,main:=h.main })
 ·exact (show Mach.fit { M with fr:=loB M.fr n } from { h with fr:=loB_bd h.fr hn,main:=h.main })
 ·exact Mach.fit.of h ⟨h.main,h.aux,h.p0,h.p1,h.tr,h.tc,h.s,h.fr,hiB_bd h.to hn,h.m0,h.m1⟩ ⟨rfl,rfl,rfl,rfl,rfl⟩ rfl ⟨rfl,rfl,rfl⟩ ⟨rfl,rfl⟩ (Or.inl rfl)
 ·exact Mach.fit.of h ⟨h.main,h.aux,h.p0,h.p1,h.tr,h.tc,h.s,h.fr,loB_bd h.to hn,h.m0,h.m1⟩ ⟨rfl,rfl,rfl,rfl,rfl⟩ rfl ⟨rfl,rfl,rfl⟩ ⟨rfl,rfl⟩ (Or.inl rfl)
theorem takes_no (i:Nat) (n:Int) (h:i ≠ 14):tk.add (takes i n)=tk:=by unfold takes;rw [if_neg h,Tk.add_zero]
theorem putM_all (n:Int) (hn:0<=n/\n<=255) (htk:0<=tk.n/\tk.n<=1000000000000) (i:Nat) (hi:i < 32):PutM F M tk i n:=by
 intro W h
 by_cases e14:i=14
 ·subst e14
  rw [show tk.add (takes 14 n)=tk.add (2 * n) from rfl]
  exact Bu.put_xf _ _ h (fun W h=>Bu.xfer_w h n hn htk)
 rw [takes_no i n e14]
 have hc:i=0 \/ i=1 \/ i=2 \/ i=3 \/ i=4 \/ i=5 \/ i=6 \/ i=7 \/ i=8 \/ i=9 \/ i=10 \/ i=11 \/ i=12 \/ i=13 \/ i=15 \/ i=16 \/ i=17 \/ i=18 \/ i=19 \/ i=20 \/ i=21 \/ i=22 \/ i=23 \/ i=24 \/ i=25 \/ i=26 \/ i=27 \/ i=28 \/ i=29 \/ i=30 \/ i=31:=by omega
 clear e14 hi
 rcases hc with rfl | rfl | rfl | rfl | rfl | rfl | rfl | rfl | rfl | rfl | rfl | rfl | rfl | rfl | rfl | rfl | rfl | rfl | rfl | rfl | rfl | rfl | rfl | rfl | rfl | rfl | rfl | rfl | rfl | rfl | rfl
 ·exact Bu.put_wp _ _ h (fun W h=>Bu.pads_w h n hn)
 ·exact Bu.put_nil _ _ h
 ·exact Bu.put_hi _ _ _ h (fun W h=>Bu.high_w h _ 41 M.t.r n .h2 rfl h.fit.tr hn (by omega) rfl ⟨rfl,rfl,rfl,rfl,rfl⟩ (putM_fit h.fit hn (by omega)))
 ·exact Bu.put_lo _ _ _ h (fun W h=>Bu.low_w h _ 41 M.t.r n .h3 rfl h.fit.tr hn (by omega) rfl ⟨rfl,rfl,rfl,rfl,rfl⟩ (putM_fit h.fit hn (by omega)))
 ·exact Bu.put_wt _ _ h (fun W h=>Bu.timer_w h n hn)
 ·exact Bu.put_nil _ _ h
 ·exact Bu.put_nil _ _ h
 ·exact Bu.put_nil _ _ h
 ·exact Bu.put_wb _ _ h (fun W h=>Bu.beam_w h n)
 ·exact Bu.put_nil _ _ h
 ·exact Bu.put_hi _ _ _ h (fun W h=>Bu.high_w h _ 65 M.fr n .h10 rfl h.fit.fr hn (by omega) rfl ⟨rfl,rfl,rfl,rfl,rfl⟩ (putM_fit h.fit hn (by omega)))
 ·exact Bu.put_lo _ _ _ h (fun W h=>Bu.low_w h _ 65 M.fr n .h11 rfl h.fit.fr hn (by omega) rfl ⟨rfl,rfl,rfl,rfl,rfl⟩ (putM_fit h.fit hn (by omega)))
 ·exact Bu.put_hi _ _ _ h (fun W h=>Bu.high_w h _ 66 M.to n .h12 rfl h.fit.to hn (by omega) rfl ⟨rfl,rfl,rfl,rfl,rfl⟩ (putM_fit h.fit hn (by omega)))
 ·exact Bu.put_lo _ _ _ h (fun W h=>Bu.low_w h _ 66 M.to n .h13 rfl h.fit.to hn (by omega) rfl ⟨rfl,rfl,rfl,rfl,rfl⟩ (putM_fit h.fit hn (by omega)))
 ·exact Bu.put_nil _ _ h
 ·exact Bu.put_wa _ _ h (fun W h=>Bu.aux_w h n hn)
 ·exact Bu.put_sm _ _ h (fun W h=>Bu.mail_w h n hn)
 ·exact Bu.put_nil _ _ h
 ·exact Bu.put_nil _ _ h
 ·exact Bu.put_nil _ _ h
 ·exact Bu.put_nil _ _ h
 ·exact Bu.put_nil _ _ h
 ·exact Bu.put_nil _ _ h
 ·exact Bu.put_nil _ _ h
 ·exact Bu.put_nil _ _ h
 ·exact Bu.put_nil _ _ h
 ·exact Bu.put_nil _ _ h
 ·exact Bu.put_nil _ _ h
 ·exact Bu.put_nil _ _ h
 ·exact Bu.put_nil _ _ h
 ·exact Bu.put_nil _ _ h
theorem endC {e:Ending} {w':World} (h:e = .returned (.tuple #[])/\Bd F w' M' tk/\Bt F W w') {l:List Wt} (hl:l=[]):e = .returned (.tuple #[])/\(∃ v,Bd F w' M' (tk.app l v))/\Bw F W w':=⟨h.1,endA h.2.1 hl h.2.2⟩
theorem putA_all (n:Int) (hn:0<=n/\n<=255) (hl:tk.l.length<=1000000000) (i:Nat) (hi:i < 32):PutA F M tk i n:=by
 intro W h
 unfold Fx.wrA Mach.putA shown
 by_cases e:i < 24
 ·rw [if_pos e,if_pos e,if_pos e]
  exact Bu.put_sw _ _ _ _ h (fun W h=>Bu.sound_w h i e n hn hl)
 ·rw [if_neg e,if_neg e,if_neg e]
  by_cases e2:i=24
  ·rw [if_pos e2,if_pos e2]
   exact (Bu.put_am _ _ _ h (fun W h=>Bu.mail_a h n hn)).mono (fun _ _ hx=>endC hx rfl)
  ·rw [if_neg e2,if_neg e2]
   exact (Bu.put_nil _ _ h).mono (fun _ _ hx=>endC hx rfl)
end
theorem Bu.high_n (g o:Nat) (w:World):Calls Tryz.prog 116 #[pt g o] w fun e w'=>e = .returned (fval 163 #[pt w.heap.size 0])/\w'=w.alloc (.cells #[pt g o] 208):=by
 go_enter Tryz.func116,Tryz.ntmps116
 go_wp2
 go_ret
 exact ⟨rfl,rfl⟩
theorem Bu.low_n (g o:Nat) (w:World):Calls Tryz.prog 117 #[pt g o] w fun e w'=>e = .returned (fval 164 #[pt w.heap.size 0])/\w'=w.alloc (.cells #[pt g o] 208):=by
 go_enter Tryz.func117,Tryz.ntmps117
 go_wp2
 go_ret
 exact ⟨rfl,rfl⟩
theorem Bu.pad_n (g:Nat) (i:Int) (w:World):Calls Tryz.prog 114 #[pt g 0,.int .i64 i] w fun e w'=>e = .returned (fval 160 #[pt w.heap.size 0,pt (w.heap.size+1) 0])/\w'=(w.alloc (.cells #[pt g 0] 88)).alloc (.cells #[.int .i64 i] 3):=by
 go_enter Tryz.func114,Tryz.ntmps114
 go_wp2
 go_ret
 exact ⟨rfl,rfl⟩
theorem Bu.sound_n (g:Nat) (i:Int) (w:World):Calls Tryz.prog 131 #[pt g 0,.int .i64 i] w fun e w'=>e = .returned (fval 167 #[pt w.heap.size 0,pt (w.heap.size+1) 0])/\w'=(w.alloc (.cells #[pt g 0] 88)).alloc (.cells #[.int .i64 i] 3):=by
 go_enter Tryz.func131,Tryz.ntmps131
 go_wp2
 go_ret
 exact ⟨rfl,rfl⟩
theorem info_ports:(Tryz.prog.info? 130).map (·.size)=some 64:=by kernel_rfl
end Go.Proofs.YtbhpfkjfijdmaaaGreatDoor
