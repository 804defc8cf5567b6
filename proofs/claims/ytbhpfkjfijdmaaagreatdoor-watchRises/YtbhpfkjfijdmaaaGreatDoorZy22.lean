/-
  Parts of a proof, joined.
-/
import Derived.Test.YtbhpfkjfijdmaaaGreatDoorZy15
import Derived.Test.YtbhpfkjfijdmaaaGreatDoorZy16
import Derived.Test.YtbhpfkjfijdmaaaGreatDoorZy21
import Derived.Test.YtbhpfkjfijdmaaaGreatDoorZy14
import Derived.Deep.RegionHeld3
namespace Go.Proofs.YtbhpfkjfijdmaaaGreatDoor
open Go.ChangeShapes Go.WideShapes Go.ChangeAt Go.RowKit
set_option linter.unusedVariables false
set_option maxRecDepth 100000
set_option maxHeartbeats 3200000
section
variable {F : Fx} {W : World} {M M' : Mach} {tk tk' : Tk}
theorem ne_g (n:Nat) (a b:Array Value) (w:World):(binOp .neq 127 (.func (.func n) a b) .nilFunc).run Tryz.prog w = .ok (.bool true) w:=by kernel_rfl
theorem ne_gn (w:World):(binOp .neq 127 .nilFunc .nilFunc).run Tryz.prog w = .ok (.bool false) w:=by kernel_rfl
theorem Bu.put_nil (vr:Value) (n:Int) (h:Bd F W M tk):Calls Tryz.prog 137 #[.agg #[vr,.nilFunc],.int .u8 n] W fun e w'=>e = .returned (.tuple #[])/\Bd F w' M tk/\Bt F W w':=by
 have hn:=ne_gn
 have H:=hid h
 clear h
 go_enter Tryz.func137,Tryz.ntmps137
 go_wp2
 go_end0
 exact ⟨rfl,H.out.over _,Mv.of_below H.out.big (stA (st0 _) _)⟩
theorem Bu.put_wp (vr:Value) (n:Int) (h:Bd F W M tk) (hc:∀ W,Bd F W M tk->Calls Tryz.prog 115 #[pt F.g 0,.int .u8 n] W fun e w'=>e = .returned (.tuple #[])/\Bd F w' M' tk'/\Bt F W w') :
 Calls Tryz.prog 137 #[.agg #[vr,mval 115 F.g 0],.int .u8 n] W fun e w'=>e = .returned (.tuple #[])/\Bd F w' M' tk'/\Bt F W w':=by
 have hn:∀ w:World,(binOp .neq 127 (mval 115 F.g 0) .nilFunc).run Tryz.prog w = .ok (.bool true) w:=fun w=>ne_g _ _ _ w
 have H:=hid h
 have HC:=hid hc
 clear h hc
 go_enter Tryz.func137,Tryz.ntmps137
 go_wp2_with (go_at_call 115;refine (HC.out _ (H.out.over _)).mono ?_;rintro e w1 ⟨rfl,hB,hT⟩)
 go_end0
 exact ⟨rfl,hB,Mv.trans (Mv.of_below H.out.big (stA (st0 _) _)) hT⟩
theorem Bu.put_wt (vr:Value) (n:Int) (h:Bd F W M tk) (hc:∀ W,Bd F W M tk->Calls Tryz.prog 119 #[pt F.g 0,.int .u8 n] W fun e w'=>e = .returned (.tuple #[])/\Bd F w' M' tk'/\Bt F W w') :
 Calls Tryz.prog 137 #[.agg #[vr,mval 119 F.g 0],.int .u8 n] W fun e w'=>e = .returned (.tuple #[])/\Bd F w' M' tk'/\Bt F W w':=by
 have hn:∀ w:World,(binOp .neq 127 (mval 119 F.g 0) .nilFunc).run Tryz.prog w = .ok (.bool true) w:=fun w=>ne_g _ _ _ w
 have H:=hid h
 have HC:=hid hc
 clear h hc
 go_enter Tryz.func137,Tryz.ntmps137
 go_wp2_with (go_at_call 119;refine (HC.out _ (H.out.over _)).mono ?_;rintro e w1 ⟨rfl,hB,hT⟩)
 go_end0
 exact ⟨rfl,hB,Mv.trans (Mv.of_below H.out.big (stA (st0 _) _)) hT⟩
theorem Bu.put_wb (vr:Value) (n:Int) (h:Bd F W M tk) (hc:∀ W,Bd F W M tk->Calls Tryz.prog 123 #[pt F.g 0,.int .u8 n] W fun e w'=>e = .returned (.tuple #[])/\Bd F w' M' tk'/\Bt F W w') :
 Calls Tryz.prog 137 #[.agg #[vr,mval 123 F.g 0],.int .u8 n] W fun e w'=>e = .returned (.tuple #[])/\Bd F w' M' tk'/\Bt F W w':=by
 have hn:∀ w:World,(binOp .neq 127 (mval 123 F.g 0) .nilFunc).run Tryz.prog w = .ok (.bool true) w:=fun w=>ne_g _ _ _ w
 have H:=hid h
 have HC:=hid hc
 clear h hc
 go_enter Tryz.func137,Tryz.ntmps137
 go_wp2_with (go_at_call 123;refine (HC.out _ (H.out.over _)).mono ?_;rintro e w1 ⟨rfl,hB,hT⟩)
 go_end0
 exact ⟨rfl,hB,Mv.trans (Mv.of_below H.out.big (stA (st0 _) _)) hT⟩
theorem Bu.put_xf (vr:Value) (n:Int) (h:Bd F W M tk) (hc:∀ W,Bd F W M tk->Calls Tryz.prog 124 #[pt F.g 0,.int .u8 n] W fun e w'=>e = .returned (.tuple #[])/\Bd F w' M' tk'/\Bt F W w') :
 Calls Tryz.prog 137 #[.agg #[vr,mval 124 F.g 0],.int .u8 n] W fun e w'=>e = .returned (.tuple #[])/\Bd F w' M' tk'/\Bt F W w':=by
 have hn:∀ w:World,(binOp .neq 127 (mval 124 F.g 0) .nilFunc).run Tryz.prog w = .ok (.bool true) w:=fun w=>ne_g _ _ _ w
 have H:=hid h
 have HC:=hid hc
 clear h hc
 go_enter Tryz.func137,Tryz.ntmps137
 go_wp2_with (go_at_call 124;refine (HC.out _ (H.out.over _)).mono ?_;rintro e w1 ⟨rfl,hB,hT⟩)
 go_end0
 exact ⟨rfl,hB,Mv.trans (Mv.of_below H.out.big (stA (st0 _) _)) hT⟩
theorem Bu.put_wa (vr:Value) (n:Int) (h:Bd F W M tk) (hc:∀ W,Bd F W M tk->Calls Tryz.prog 126 #[pt F.g 0,.int .u8 n] W fun e w'=>e = .returned (.tuple #[])/\Bd F w' M' tk'/\Bt F W w') :
 Calls Tryz.prog 137 #[.agg #[vr,mval 126 F.g 0],.int .u8 n] W fun e w'=>e = .returned (.tuple #[])/\Bd F w' M' tk'/\Bt F W w':=by
 have hn:∀ w:World,(binOp .neq 127 (mval 126 F.g 0) .nilFunc).run Tryz.prog w = .ok (.bool true) w:=fun w=>ne_g _ _ _ w
 have H:=hid h
 have HC:=hid hc
 clear h hc
 go_enter Tryz.func137,Tryz.ntmps137
 go_wp2_with (go_at_call 126;refine (HC.out _ (H.out.over _)).mono ?_;rintro e w1 ⟨rfl,hB,hT⟩)
 go_end0
 exact ⟨rfl,hB,Mv.trans (Mv.of_below H.out.big (stA (st0 _) _)) hT⟩
theorem Bu.put_sm (vr:Value) (n:Int) (h:Bd F W M tk) (hc:∀ W,Bd F W M tk->Calls Tryz.prog 128 #[pt F.g 0,.int .u8 n] W fun e w'=>e = .returned (.tuple #[])/\Bd F w' M' tk'/\Bt F W w') :
 Calls Tryz.prog 137 #[.agg #[vr,mval 128 F.g 0],.int .u8 n] W fun e w'=>e = .returned (.tuple #[])/\Bd F w' M' tk'/\Bt F W w':=by
 have hn:∀ w:World,(binOp .neq 127 (mval 128 F.g 0) .nilFunc).run Tryz.prog w = .ok (.bool true) w:=fun w=>ne_g _ _ _ w
 have H:=hid h
 have HC:=hid hc
 clear h hc
 go_enter Tryz.func137,Tryz.ntmps137
 go_wp2_with (go_at_call 128;refine (HC.out _ (H.out.over _)).mono ?_;rintro e w1 ⟨rfl,hB,hT⟩)
 go_end0
 exact ⟨rfl,hB,Mv.trans (Mv.of_below H.out.big (stA (st0 _) _)) hT⟩
theorem Bu.put_hi (vr:Value) (n:Int) (q:Nat) (h:Bd F W M tk) (hc:∀ W,Bd F W M tk->Calls Tryz.prog 163 #[.int .u8 n,pt q 0] W fun e w'=>e = .returned (.tuple #[])/\Bd F w' M' tk'/\Bt F W w') :
 Calls Tryz.prog 137 #[.agg #[vr,fval 163 #[pt q 0]],.int .u8 n] W fun e w'=>e = .returned (.tuple #[])/\Bd F w' M' tk'/\Bt F W w':=by
 have hn:∀ w:World,(binOp .neq 127 (fval 163 #[pt q 0]) .nilFunc).run Tryz.prog w = .ok (.bool true) w:=fun w=>ne_g _ _ _ w
 have H:=hid h
 have HC:=hid hc
 clear h hc
 go_enter Tryz.func137,Tryz.ntmps137
 go_wp2_with (go_at_call 163;refine (HC.out _ (H.out.over _)).mono ?_;rintro e w1 ⟨rfl,hB,hT⟩)
 go_end0
 exact ⟨rfl,hB,Mv.trans (Mv.of_below H.out.big (stA (st0 _) _)) hT⟩
theorem Bu.put_lo (vr:Value) (n:Int) (q:Nat) (h:Bd F W M tk) (hc:∀ W,Bd F W M tk->Calls Tryz.prog 164 #[.int .u8 n,pt q 0] W fun e w'=>e = .returned (.tuple #[])/\Bd F w' M' tk'/\Bt F W w') :
 Calls Tryz.prog 137 #[.agg #[vr,fval 164 #[pt q 0]],.int .u8 n] W fun e w'=>e = .returned (.tuple #[])/\Bd F w' M' tk'/\Bt F W w':=by
 have hn:∀ w:World,(binOp .neq 127 (fval 164 #[pt q 0]) .nilFunc).run Tryz.prog w = .ok (.bool true) w:=fun w=>ne_g _ _ _ w
 have H:=hid h
 have HC:=hid hc
 clear h hc
 go_enter Tryz.func137,Tryz.ntmps137
 go_wp2_with (go_at_call 164;refine (HC.out _ (H.out.over _)).mono ?_;rintro e w1 ⟨rfl,hB,hT⟩)
 go_end0
 exact ⟨rfl,hB,Mv.trans (Mv.of_below H.out.big (stA (st0 _) _)) hT⟩
theorem Bu.put_am (vr:Value) (n:Int) (q:Nat) (h:Bd F W M tk) (hc:∀ W,Bd F W M tk->Calls Tryz.prog 130 #[.int .u8 n,pt q 0] W fun e w'=>e = .returned (.tuple #[])/\Bd F w' M' tk'/\Bt F W w') :
 Calls Tryz.prog 137 #[.agg #[vr,fval 130 #[pt q 0]],.int .u8 n] W fun e w'=>e = .returned (.tuple #[])/\Bd F w' M' tk'/\Bt F W w':=by
 have hn:∀ w:World,(binOp .neq 127 (fval 130 #[pt q 0]) .nilFunc).run Tryz.prog w = .ok (.bool true) w:=fun w=>ne_g _ _ _ w
 have H:=hid h
 have HC:=hid hc
 clear h hc
 go_enter Tryz.func137,Tryz.ntmps137
 go_wp2_with (go_at_call 130;refine (HC.out _ (H.out.over _)).mono ?_;rintro e w1 ⟨rfl,hB,hT⟩)
 go_end0
 exact ⟨rfl,hB,Mv.trans (Mv.of_below H.out.big (stA (st0 _) _)) hT⟩
theorem Bu.put_sw (vr:Value) (n:Int) (q v:Nat) {l:List Wt} (h:Bd F W M tk) (hc:∀ W,Bd F W M tk->Calls Tryz.prog 167 #[.int .u8 n,pt q 0,pt v 0] W fun e w'=>e = .returned (.tuple #[])/\EndA F W w' M' tk l) :
 Calls Tryz.prog 137 #[.agg #[vr,fval 167 #[pt q 0,pt v 0]],.int .u8 n] W fun e w'=>e = .returned (.tuple #[])/\EndA F W w' M' tk l:=by
 have hn:∀ w:World,(binOp .neq 127 (fval 167 #[pt q 0,pt v 0]) .nilFunc).run Tryz.prog w = .ok (.bool true) w:=fun w=>ne_g _ _ _ w
 have H:=hid h
 have HC:=hid hc
 clear h hc
 go_enter Tryz.func137,Tryz.ntmps137
 go_wp2_with (go_at_call 167;refine (HC.out _ (H.out.over _)).mono ?_;rintro e w1 ⟨rfl,hB⟩)
 go_end0
 exact ⟨rfl,hB.1,(Bw.of_below H.out.big (stA (st0 _) _)).trans hB.2⟩
theorem putM_fit {k:Nat} {n:Int} (h:M.fit) (hn:0<=n/\n<=255) (hk:k=2 \/ k=3 \/ k=10 \/ k=11 \/ k=12 \/ k=13):(M.putM k n).fit:=by
 rcases hk with rfl | rfl | rfl | rfl | rfl | rfl
 ·exact (show Mach.fit { M with t:={ M.t with r:=hiB M.t.r n } } from { h with tr:=hiB_bd h.tr hn,tc:=h.tc,main:=h.main })
 ·exact (show Mach.fit { M with t:={ M.t with r:=loB M.t.r n } } from { h with tr:=loB_bd h.tr hn,tc:=h.tc,main:=h.main })
 ·exact (show Mach.fit { M with fr:=hiB M.fr n } from { h with fr:=hiB_bd h.fr hn,main:=h.main })
 ·exact (show Mach.fit { M with fr:=loB M.fr n } from { h with fr:=loB_bd h.fr hn,main:=h.main })
 ·exact Mach.fit.of h ⟨h.main,h.aux,h.p0,h.p1,h.tr,h.tc,h.s,h.fr,hiB_bd h.to hn,h.m0,h.m1⟩ ⟨rfl,rfl,rfl,rfl,rfl⟩ rfl ⟨rfl,rfl,rfl⟩ ⟨rfl,rfl⟩ (Or.inl rfl)
 ·exact Mach.fit.of h ⟨h.main,h.aux,h.p0,h.p1,h.tr,h.tc,h.s,h.fr,loB_bd h.to hn,h.m0,h.m1⟩ ⟨rfl,rfl,rfl,rfl,rfl⟩ rfl ⟨rfl,rfl,rfl⟩ ⟨rfl,rfl⟩ (Or.inl rfl)
theorem takes_no (i:Nat) (n:Int) (h:i ≠ 14):tk.add (takes i n)=tk:=by unfold takes;rw [if_neg h,Tk.add_zero]
theorem putM_all (n:Int) (hn:0<=n/\n<=255) (htk:0<=tk.n/\tk.n<=1000000000000) (i:Nat) (hi:i < 32):PutM F M tk i n:=by
 intro W h
 by_cases e14:i=14
 ·subst e14
  rw [show tk.add (takes 14 n)=tk.add (2 * n) from rfl]
  exact Bu.put_xf _ _ h (fun W h=>Bu.xfer_w h n hn htk)
 rw [takes_no i n e14]
 have hc:i=0 \/ i=1 \/ i=2 \/ i=3 \/ i=4 \/ i=5 \/ i=6 \/ i=7 \/ i=8 \/ i=9 \/ i=10 \/ i=11 \/ i=12 \/ i=13 \/ i=15 \/ i=16 \/ i=17 \/ i=18 \/ i=19 \/ i=20 \/ i=21 \/ i=22 \/ i=23 \/ i=24 \/ i=25 \/ i=26 \/ i=27 \/ i=28 \/ i=29 \/ i=30 \/ i=31:=by omega
 clear e14 hi
 rcases hc with rfl | rfl | rfl | rfl | rfl | rfl | rfl | rfl | rfl | rfl | rfl | rfl | rfl | rfl | rfl | rfl | rfl | rfl | rfl | rfl | rfl | rfl | rfl | rfl | rfl | rfl | rfl | rfl | rfl | rfl | rfl
 ·exact Bu.put_wp _ _ h (fun W h=>Bu.pads_w h n hn)
 ·exact Bu.put_nil _ _ h
 ·exact Bu.put_hi _ _ _ h (fun W h=>Bu.high_w h _ 41 M.t.r n .h2 rfl h.fit.tr hn (by omega) rfl ⟨rfl,rfl,rfl,rfl,rfl⟩ (putM_fit h.fit hn (by omega)))
 ·exact Bu.put_lo _ _ _ h (fun W h=>Bu.low_w h _ 41 M.t.r n .h3 rfl h.fit.tr hn (by omega) rfl ⟨rfl,rfl,rfl,rfl,rfl⟩ (putM_fit h.fit hn (by omega)))
 ·exact Bu.put_wt _ _ h (fun W h=>Bu.timer_w h n hn)
 ·exact Bu.put_nil _ _ h
 ·exact Bu.put_nil _ _ h
 ·exact Bu.put_nil _ _ h
 ·exact Bu.put_wb _ _ h (fun W h=>Bu.beam_w h n)
 ·exact Bu.put_nil _ _ h
 ·exact Bu.put_hi _ _ _ h (fun W h=>Bu.high_w h _ 65 M.fr n .h10 rfl h.fit.fr hn (by omega) rfl ⟨rfl,rfl,rfl,rfl,rfl⟩ (putM_fit h.fit hn (by omega)))
 ·exact Bu.put_lo _ _ _ h (fun W h=>Bu.low_w h _ 65 M.fr n .h11 rfl h.fit.fr hn (by omega) rfl ⟨rfl,rfl,rfl,rfl,rfl⟩ (putM_fit h.fit hn (by omega)))
 ·exact Bu.put_hi _ _ _ h (fun W h=>Bu.high_w h _ 66 M.to n .h12 rfl h.fit.to hn (by omega) rfl ⟨rfl,rfl,rfl,rfl,rfl⟩ (putM_fit h.fit hn (by omega)))
 ·exact Bu.put_lo _ _ _ h (fun W h=>Bu.low_w h _ 66 M.to n .h13 rfl h.fit.to hn (by omega) rfl ⟨rfl,rfl,rfl,rfl,rfl⟩ (putM_fit h.fit hn (by omega)))
 ·exact Bu.put_nil _ _ h
 ·exact Bu.put_wa _ _ h (fun W h=>Bu.aux_w h n hn)
 ·exact Bu.put_sm _ _ h (fun W h=>Bu.mail_w h n hn)
 ·exact Bu.put_nil _ _ h
 ·exact Bu.put_nil _ _ h
 ·exact Bu.put_nil _ _ h
 ·exact Bu.put_nil _ _ h
 ·exact Bu.put_nil _ _ h
 ·exact Bu.put_nil _ _ h
 ·exact Bu.put_nil _ _ h
 ·exact Bu.put_nil _ _ h
 ·exact Bu.put_nil _ _ h
 ·exact Bu.put_nil _ _ h
 ·exact Bu.put_nil _ _ h
 ·exact Bu.put_nil _ _ h
 ·exact Bu.put_nil _ _ h
 ·exact Bu.put_nil _ _ h
theorem endC {e:Ending} {w':World} (h:e = .returned (.tuple #[])/\Bd F w' M' tk/\Bt F W w') {l:List Wt} (hl:l=[]):e = .returned (.tuple #[])/\(∃ v,Bd F w' M' (tk.app l v))/\Bw F W w':=⟨h.1,endA h.2.1 hl h.2.2⟩
theorem putA_all (n:Int) (hn:0<=n/\n<=255) (hl:tk.l.length<=1000000000) (i:Nat) (hi:i < 32):PutA F M tk i n:=by
 intro W h
 unfold Fx.wrA Mach.putA shown
 by_cases e:i < 24
 ·rw [if_pos e,if_pos e,if_pos e]
  exact Bu.put_sw _ _ _ _ h (fun W h=>Bu.sound_w h i e n hn hl)
 ·rw [if_neg e,if_neg e,if_neg e]
  by_cases e2:i=24
  ·rw [if_pos e2,if_pos e2]
   exact (Bu.put_am _ _ _ h (fun W h=>Bu.mail_a h n hn)).mono (fun _ _ hx=>endC hx rfl)
  ·rw [if_neg e2,if_neg e2]
   exact (Bu.put_nil _ _ h).mono (fun _ _ hx=>endC hx rfl)
end
theorem Bu.high_n (g o:Nat) (w:World):Calls Tryz.prog 116 #[pt g o] w fun e w'=>e = .returned (fval 163 #[pt w.heap.size 0])/\w'=w.alloc (.cells #[pt g o] 208):=by
 go_enter Tryz.func116,Tryz.ntmps116
 go_wp2
 go_ret
 exact ⟨rfl,rfl⟩
theorem Bu.low_n (g o:Nat) (w:World):Calls Tryz.prog 117 #[pt g o] w fun e w'=>e = .returned (fval 164 #[pt w.heap.size 0])/\w'=w.alloc (.cells #[pt g o] 208):=by
 go_enter Tryz.func117,Tryz.ntmps117
 go_wp2
 go_ret
 exact ⟨rfl,rfl⟩
theorem Bu.pad_n (g:Nat) (i:Int) (w:World):Calls Tryz.prog 114 #[pt g 0,.int .i64 i] w fun e w'=>e = .returned (fval 160 #[pt w.heap.size 0,pt (w.heap.size+1) 0])/\w'=(w.alloc (.cells #[pt g 0] 88)).alloc (.cells #[.int .i64 i] 3):=by
 go_enter Tryz.func114,Tryz.ntmps114
 go_wp2
 go_ret
 exact ⟨rfl,rfl⟩
theorem Bu.sound_n (g:Nat) (i:Int) (w:World):Calls Tryz.prog 131 #[pt g 0,.int .i64 i] w fun e w'=>e = .returned (fval 167 #[pt w.heap.size 0,pt (w.heap.size+1) 0])/\w'=(w.alloc (.cells #[pt g 0] 88)).alloc (.cells #[.int .i64 i] 3):=by
 go_enter Tryz.func131,Tryz.ntmps131
 go_wp2
 go_ret
 exact ⟨rfl,rfl⟩
theorem info_ports:(Tryz.prog.info? 130).map (·.size)=some 64:=by kernel_rfl
def sl0:Sl:=⟨.nilFunc,.nilFunc,.nilFunc,.nilFunc,.nilFunc⟩
def fxE (g:Nat) (E:Env):Fx:=⟨0,g,0,0,0,0,0,sl0,E⟩
def EnvM (g:Nat) (E:Env) (W:World):Prop:=Bx W E.mb [pt g 0]/\Bx W E.q0 [pt g 0]/\Bx W E.w0 [.int .i64 0]/\Bx W E.q1 [pt g 0]/\Bx W E.w1 [.int .i64 1]/\Bx W E.h2 [pt g 41]/\Bx W E.h3 [pt g 41]/\Bx W E.h10 [pt g 65]/\Bx W E.h11 [pt g 65]/\Bx W E.h12 [pt g 66]/\Bx W E.h13 [pt g 66]
def EnvM.lo (n:Nat) (E:Env):Prop:=n < E.mb/\n < E.q0/\n < E.w0/\n < E.q1/\n < E.w1/\n < E.h2/\n < E.h3/\n < E.h10/\n < E.h11/\n < E.h12/\n < E.h13
def mE (n:Nat):Env:=⟨n+1,n+2,n+3,n+4,n+5,n+6,n+7,n+8,n+9,n+10,n+11,0,fun _=>0,fun _=>0⟩
def nil64:List Value:=List.replicate 64 .nilFunc
theorem load_ports {Y:World} {b:Nat} {L:List Value} (hl:L.length=64) (h:Bx Y b L):(loadVar 130 ⟨b,0,none⟩).run Tryz.prog Y = .ok (.agg L.toArray) Y :=
 run_loadVar_mid Y b 0 130 _ _ h.c Tryz.underlying130 rfl (info_ports.trans (by rw [hl]))
def mpL (g:Nat) (w:World):List Value:=[fval 160 #[pt (w.heap.size+2) 0,pt (w.heap.size+3) 0],mval 115 g 0,fval 160 #[pt (w.heap.size+4) 0,pt (w.heap.size+5) 0],.nilFunc,.nilFunc,fval 163 #[pt (w.heap.size+6) 0],.nilFunc,fval 164 #[pt (w.heap.size+7) 0],mval 118 g 0,mval 119 g 0,.nilFunc,.nilFunc,fval 120 #[pt (w.heap.size+1) 0],.nilFunc,fval 121 #[pt (w.heap.size+1) 0],.nilFunc,mval 122 g 0,mval 123 g 0,.nilFunc,.nilFunc,.nilFunc,fval 163 #[pt (w.heap.size+8) 0],.nilFunc,fval 164 #[pt (w.heap.size+9) 0],.nilFunc,fval 163 #[pt (w.heap.size+10) 0],.nilFunc,fval 164 #[pt (w.heap.size+11) 0],.nilFunc,mval 124 g 0,.nilFunc,.nilFunc,mval 125 g 0,mval 126 g 0,fval 127 #[pt (w.heap.size+1) 0],mval 128 g 0,.nilFunc,.nilFunc,.nilFunc,.nilFunc,.nilFunc,.nilFunc,.nilFunc,.nilFunc,.nilFunc,.nilFunc,.nilFunc,.nilFunc,.nilFunc,.nilFunc,.nilFunc,.nilFunc,.nilFunc,.nilFunc,.nilFunc,.nilFunc,.nilFunc,.nilFunc,.nilFunc,.nilFunc,.nilFunc,.nilFunc,.nilFunc,.nilFunc]
theorem mpL_eq (g:Nat) (w:World):mpL g w=portsN (fxE g (mE w.heap.size)).rdM (fxE g (mE w.heap.size)).wrM 32:=by kernel_rfl
theorem oneR (F:Fx) (i:Nat):(F.rdM i).oneCell'=true:=by unfold Fx.rdM;split <;> rfl
theorem oneW (F:Fx) (i:Nat):(F.wrM i).oneCell'=true:=by unfold Fx.wrM;split <;> rfl
theorem mem_ports (r w:Nat->Value) (v:Value):∀ n,v ∈ portsN r w n->∃ i,v=r i \/ v=w i
 | 0,h=>by simp [portsN] at h
 | n+1,h=>by
  simp only [portsN,List.mem_append,List.mem_cons,List.not_mem_nil,or_false] at h
  rcases h with h | h | h
  ·exact mem_ports r w v n h
  ·exact ⟨n,Or.inl h⟩
  ·exact ⟨n,Or.inr h⟩
theorem mpL_one (g:Nat) (w:World):∀ v ∈ mpL g w,v.oneCell'=true:=fun v hv=>by
 rw [mpL_eq] at hv
 obtain ⟨i,rfl | rfl⟩:=mem_ports _ _ v 32 hv
 ·exact oneR _ _
 ·exact oneW _ _
theorem mp_keep {W w':World} {b c:Nat} {v:Value} (h:W.cell? ⟨c,0,none⟩=some v/\W.there b 0 64) (hb:b < W.heap.size) (hc:c < W.heap.size) (hl:Below W.heap.size W w'):w'.cell? ⟨c,0,none⟩=some v/\w'.there b 0 64 :=
 ⟨(hl.cell (p:=⟨c,0,none⟩) hc).trans h.1,Pl.there_old h.2 hl hb⟩
theorem putL_all (L L':List Value) (h:L'.length=L.length):putL L 0 L'=L':=by
 have:=putL_mid [] L' L [] h
 simpa using this
theorem mpL_len (g:Nat) (w:World):(mpL g w).length=64:=rfl
theorem mp_box (g:Nat) (w:World) {Y:World} {b:Nat} (h:Bx Y b nil64):Bx (Y.setCells b 0 (mpL g w).toArray.toList) b (mpL g w):=by
 have hx:=h.puts 0 (mpL g w) (by rw [mpL_len];simp [nil64])
 rw [putL_all _ _ (by rw [mpL_len];simp [nil64])] at hx
 exact hx
theorem mp_last {W:World} {n:Nat} {v:Value} {vs:List Value} (h:W.cell? ⟨n+1,0,none⟩=some v/\W.there n 0 64):(W.setCells n 0 vs).cell? ⟨n+1,0,none⟩=some v/\(W.setCells n 0 vs).there n 0 64 :=
 ⟨(World.cell?_of_block (heap_sets_far (x:=n+1) (b:=n) (by omega) _ _ _)).trans h.1,World.there_setCells h.2 _ _ _⟩
theorem Bu.mports_any (g:Nat) (w:World):Calls Tryz.prog 78 #[pt g 0] w fun e w' =>
 e = .returned (.agg (portsN (fxE g (mE w.heap.size)).rdM (fxE g (mE w.heap.size)).wrM 32).toArray)/\Below w.heap.size w w'/\EnvM g (mE w.heap.size) w':=by
 go_enter Tryz.func78,Tryz.ntmps78
 go_wp2
 try simp only [List.append]
 refine wp_region_held_drew (S:=fun w'=>w'.cell? ⟨w.heap.size+1,0,none⟩=some (pt g 0)/\w'.there w.heap.size 0 64) (by kernel_rfl) ⟨by simp,World.there_alloc (Pl.there_new w _ _ 64 _ rfl rfl) _⟩ ?_
 intro hS
 refine wpAnyH_take (i:=0) (oi:=⟨some 7,_,_,_,_,none⟩) (v:=?_) rfl (by kernel_rfl) (by kernel_rfl) (by kernel_rfl) (fun _ _ _ h=>h) (Or.inl ⟨by rfl,?_⟩) hS ?_
 rotate_left 1
 focus (intro w hSw;(try dsimp only at hSw);go_simp;try (with_reducible rfl))
 simp only [Act.put,xA,xB,xC]
 refine wpAnyH_take (i:=2) (oi:=⟨some 9,_,_,_,_,none⟩) (v:=?_) rfl (by kernel_rfl) (by kernel_rfl) (by kernel_rfl) (fun _ _ _ h=>h) (Or.inl ⟨by rfl,?_⟩) hS ?_
 rotate_left 1
 focus (intro w hSw;(try dsimp only at hSw);go_simp;try (with_reducible rfl))
 simp only [Act.put,xA,xB,xC]
 refine wpAnyH_take (i:=3) (oi:=⟨some 10,_,_,_,_,none⟩) (v:=?_) rfl (by kernel_rfl) (by kernel_rfl) (by kernel_rfl) (fun _ _ _ h=>h) (Or.inl ⟨by rfl,?_⟩) hS ?_
 rotate_left 1
 focus (intro w hSw;(try dsimp only at hSw);go_simp;try (with_reducible rfl))
 simp only [Act.put,xA,xB,xC]
 refine wpAnyH_take (i:=5) (oi:=⟨some 12,_,_,_,_,none⟩) (v:=?_) rfl (by kernel_rfl) (by kernel_rfl) (by kernel_rfl) (fun _ _ _ h=>h) (Or.inl ⟨by rfl,?_⟩) hS ?_
 rotate_left 1
 focus (intro w hSw;(try dsimp only at hSw);go_simp;try (with_reducible rfl))
 simp only [Act.put,xA,xB,xC]
 refine wpAnyH_take (i:=8) (oi:=⟨some 15,_,_,_,_,none⟩) (v:=?_) rfl (by kernel_rfl) (by kernel_rfl) (by kernel_rfl) (fun _ _ _ h=>h) (Or.inl ⟨by rfl,?_⟩) hS ?_
 rotate_left 1
 focus (intro w hSw;(try dsimp only at hSw);go_simp;try (with_reducible rfl))
 simp only [Act.put,xA,xB,xC]
 refine wpAnyH_take (i:=9) (oi:=⟨some 16,_,_,_,_,none⟩) (v:=?_) rfl (by kernel_rfl) (by kernel_rfl) (by kernel_rfl) (fun _ _ _ h=>h) (Or.inl ⟨by rfl,?_⟩) hS ?_
 rotate_left 1
 focus (intro w hSw;(try dsimp only at hSw);go_simp;try (with_reducible rfl))
 simp only [Act.put,xA,xB,xC]
 refine wpAnyH_take (i:=10) (oi:=⟨some 17,_,_,_,_,none⟩) (v:=?_) rfl (by kernel_rfl) (by kernel_rfl) (by kernel_rfl) (fun _ _ _ h=>h) (Or.inl ⟨by rfl,?_⟩) hS ?_
 rotate_left 1
 focus (intro w hSw;(try dsimp only at hSw);go_simp;try (with_reducible rfl))
 simp only [Act.put,xA,xB,xC]
 refine wpAnyH_take (i:=11) (oi:=⟨some 18,_,_,_,_,none⟩) (v:=?_) rfl (by kernel_rfl) (by kernel_rfl) (by kernel_rfl) (fun _ _ _ h=>h) (Or.inl ⟨by rfl,?_⟩) hS ?_
 rotate_left 1
 focus (intro w hSw;(try dsimp only at hSw);go_simp;try (with_reducible rfl))
 simp only [Act.put,xA,xB,xC]
 refine wpAnyH_take (i:=14) (oi:=⟨some 21,_,_,_,_,none⟩) (v:=?_) rfl (by kernel_rfl) (by kernel_rfl) (by kernel_rfl) (fun _ _ _ h=>h) (Or.inl ⟨by rfl,?_⟩) hS ?_
 rotate_left 1
 focus (intro w hSw;(try dsimp only at hSw);go_simp;try (with_reducible rfl))
 simp only [Act.put,xA,xB,xC]
 refine wpAnyH_take (i:=15) (oi:=⟨some 22,_,_,_,_,none⟩) (v:=?_) rfl (by kernel_rfl) (by kernel_rfl) (by kernel_rfl) (fun _ _ _ h=>h) (Or.inl ⟨by rfl,?_⟩) hS ?_
 rotate_left 1
 focus (intro w hSw;(try dsimp only at hSw);go_simp;try (with_reducible rfl))
 simp only [Act.put,xA,xB,xC]
 refine wpAnyH_take (i:=16) (oi:=⟨some 23,_,_,_,_,none⟩) (v:=?_) rfl (by kernel_rfl) (by kernel_rfl) (by kernel_rfl) (fun _ _ _ h=>h) (Or.inl ⟨by rfl,?_⟩) hS ?_
 rotate_left 1
 focus (intro w hSw;(try dsimp only at hSw);go_simp;try (with_reducible rfl))
 simp only [Act.put,xA,xB,xC]
 refine wpAnyH_take (i:=17) (oi:=⟨some 24,_,_,_,_,none⟩) (v:=?_) rfl (by kernel_rfl) (by kernel_rfl) (by kernel_rfl) (fun _ _ _ h=>h) (Or.inl ⟨by rfl,?_⟩) hS ?_
 rotate_left 1
 focus (intro w hSw;(try dsimp only at hSw);go_simp;try (with_reducible rfl))
 simp only [Act.put,xA,xB,xC]
 refine wpAnyH_take (i:=20) (oi:=⟨some 27,_,_,_,_,none⟩) (v:=?_) rfl (by kernel_rfl) (by kernel_rfl) (by kernel_rfl) (fun _ _ _ h=>h) (Or.inl ⟨by rfl,?_⟩) hS ?_
 rotate_left 1
 focus (intro w hSw;(try dsimp only at hSw);go_simp;try (with_reducible rfl))
 simp only [Act.put,xA,xB,xC]
 refine wpAnyH_take (i:=21) (oi:=⟨some 28,_,_,_,_,none⟩) (v:=?_) rfl (by kernel_rfl) (by kernel_rfl) (by kernel_rfl) (fun _ _ _ h=>h) (Or.inl ⟨by rfl,?_⟩) hS ?_
 rotate_left 1
 focus (intro w hSw;(try dsimp only at hSw);go_simp;try (with_reducible rfl))
 simp only [Act.put,xA,xB,xC]
 refine wpAnyH_take (i:=22) (oi:=⟨some 29,_,_,_,_,none⟩) (v:=?_) rfl (by kernel_rfl) (by kernel_rfl) (by kernel_rfl) (fun _ _ _ h=>h) (Or.inl ⟨by rfl,?_⟩) hS ?_
 rotate_left 1
 focus (intro w hSw;(try dsimp only at hSw);go_simp;try (with_reducible rfl))
 simp only [Act.put,xA,xB,xC]
 refine wpAnyH_take (i:=23) (oi:=⟨some 30,_,_,_,_,none⟩) (v:=?_) rfl (by kernel_rfl) (by kernel_rfl) (by kernel_rfl) (fun _ _ _ h=>h) (Or.inl ⟨by rfl,?_⟩) hS ?_
 rotate_left 1
 focus (intro w hSw;(try dsimp only at hSw);go_simp;try (with_reducible rfl))
 simp only [Act.put,xA,xB,xC]
 refine wpAnyH_take (i:=24) (oi:=⟨some 31,_,_,_,_,none⟩) (v:=?_) rfl (by kernel_rfl) (by kernel_rfl) (by kernel_rfl) (fun _ _ _ h=>h) (Or.inl ⟨by rfl,?_⟩) hS ?_
 rotate_left 1
 focus (intro w hSw;(try dsimp only at hSw);go_simp;try (with_reducible rfl))
 simp only [Act.put,xA,xB,xC]
 refine wpAnyH_take (i:=25) (oi:=⟨some 32,_,_,_,_,none⟩) (v:=?_) rfl (by kernel_rfl) (by kernel_rfl) (by kernel_rfl) (fun _ _ _ h=>h) (Or.inl ⟨by rfl,?_⟩) hS ?_
 rotate_left 1
 focus (intro w hSw;(try dsimp only at hSw);go_simp;try (with_reducible rfl))
 simp only [Act.put,xA,xB,xC]
 refine wpAnyH_take (i:=26) (oi:=⟨some 33,_,_,_,_,none⟩) (v:=?_) rfl (by kernel_rfl) (by kernel_rfl) (by kernel_rfl) (fun _ _ _ h=>h) (Or.inl ⟨by rfl,?_⟩) hS ?_
 rotate_left 1
 focus (intro w hSw;(try dsimp only at hSw);go_simp;try (with_reducible rfl))
 simp only [Act.put,xA,xB,xC]
 refine wpAnyH_take (i:=27) (oi:=⟨some 34,_,_,_,_,none⟩) (v:=?_) rfl (by kernel_rfl) (by kernel_rfl) (by kernel_rfl) (fun _ _ _ h=>h) (Or.inl ⟨by rfl,?_⟩) hS ?_
 rotate_left 1
 focus (intro w hSw;(try dsimp only at hSw);go_simp;try (with_reducible rfl))
 simp only [Act.put,xA,xB,xC]
 refine wpAnyH_take (i:=28) (oi:=⟨some 35,_,_,_,_,none⟩) (v:=?_) rfl (by kernel_rfl) (by kernel_rfl) (by kernel_rfl) (fun _ _ _ h=>h) (Or.inl ⟨by rfl,?_⟩) hS ?_
 rotate_left 1
 focus (intro w hSw;(try dsimp only at hSw);go_simp;try (with_reducible rfl))
 simp only [Act.put,xA,xB,xC]
 refine wpAnyH_take (i:=29) (oi:=⟨some 36,_,_,_,_,none⟩) (v:=?_) rfl (by kernel_rfl) (by kernel_rfl) (by kernel_rfl) (fun _ _ _ h=>h) (Or.inl ⟨by rfl,?_⟩) hS ?_
 rotate_left 1
 focus (intro w hSw;(try dsimp only at hSw);go_simp;try (with_reducible rfl))
 simp only [Act.put,xA,xB,xC]
 refine wpAnyH_take (i:=30) (oi:=⟨some 37,_,_,_,_,none⟩) (v:=?_) rfl (by kernel_rfl) (by kernel_rfl) (by kernel_rfl) (fun _ _ _ h=>h) (Or.inl ⟨by rfl,?_⟩) hS ?_
 rotate_left 1
 focus (intro w hSw;(try dsimp only at hSw);go_simp;try (with_reducible rfl))
 simp only [Act.put,xA,xB,xC]
 refine wpAnyH_take (i:=31) (oi:=⟨some 38,_,_,_,_,none⟩) (v:=?_) rfl (by kernel_rfl) (by kernel_rfl) (by kernel_rfl) (fun _ _ _ h=>h) (Or.inl ⟨by rfl,?_⟩) hS ?_
 rotate_left 1
 focus (intro w hSw;(try dsimp only at hSw);go_simp;try (with_reducible rfl))
 simp only [Act.put,xA,xB,xC]
 refine wpAnyH_take (i:=32) (oi:=⟨some 39,_,_,_,_,none⟩) (v:=?_) rfl (by kernel_rfl) (by kernel_rfl) (by kernel_rfl) (fun _ _ _ h=>h) (Or.inl ⟨by rfl,?_⟩) hS ?_
 rotate_left 1
 focus (intro w hSw;(try dsimp only at hSw);go_simp;try (with_reducible rfl))
 simp only [Act.put,xA,xB,xC]
 refine wpAnyH_take (i:=33) (oi:=⟨some 40,_,_,_,_,none⟩) (v:=?_) rfl (by kernel_rfl) (by kernel_rfl) (by kernel_rfl) (fun _ _ _ h=>h) (Or.inl ⟨by rfl,?_⟩) hS ?_
 rotate_left 1
 focus (intro w hSw;(try dsimp only at hSw);go_simp;try (with_reducible rfl))
 simp only [Act.put,xA,xB,xC]
 refine wpAnyH_take (i:=34) (oi:=⟨some 41,_,_,_,_,none⟩) (v:=?_) rfl (by kernel_rfl) (by kernel_rfl) (by kernel_rfl) (fun _ _ _ h=>h) (Or.inl ⟨by rfl,?_⟩) hS ?_
 rotate_left 1
 focus (intro w hSw;(try dsimp only at hSw);go_simp;try (with_reducible rfl))
 simp only [Act.put,xA,xB,xC]
 refine wpAnyH_take (i:=35) (oi:=⟨some 42,_,_,_,_,none⟩) (v:=?_) rfl (by kernel_rfl) (by kernel_rfl) (by kernel_rfl) (fun _ _ _ h=>h) (Or.inl ⟨by rfl,?_⟩) hS ?_
 rotate_left 1
 focus (intro w hSw;(try dsimp only at hSw);go_simp;try (with_reducible rfl))
 simp only [Act.put,xA,xB,xC]
 refine wpAnyH_take (i:=36) (oi:=⟨some 43,_,_,_,_,none⟩) (v:=?_) rfl (by kernel_rfl) (by kernel_rfl) (by kernel_rfl) (fun _ _ _ h=>h) (Or.inl ⟨by rfl,?_⟩) hS ?_
 rotate_left 1
 focus (intro w hSw;(try dsimp only at hSw);go_simp;try (with_reducible rfl))
 simp only [Act.put,xA,xB,xC]
 refine wpAnyH_take (i:=39) (oi:=⟨some 46,_,_,_,_,none⟩) (v:=?_) rfl (by kernel_rfl) (by kernel_rfl) (by kernel_rfl) (fun _ _ _ h=>h) (Or.inl ⟨by rfl,?_⟩) hS ?_
 rotate_left 1
 focus (intro w hSw;(try dsimp only at hSw);go_simp;try (with_reducible rfl))
 simp only [Act.put,xA,xB,xC]
 refine wpAnyH_take (i:=40) (oi:=⟨some 47,_,_,_,_,none⟩) (v:=?_) rfl (by kernel_rfl) (by kernel_rfl) (by kernel_rfl) (fun _ _ _ h=>h) (Or.inl ⟨by rfl,?_⟩) hS ?_
 rotate_left 1
 focus (intro w hSw;(try dsimp only at hSw);go_simp;try (with_reducible rfl))
 simp only [Act.put,xA,xB,xC]
 refine wpAnyH_take (i:=41) (oi:=⟨some 48,_,_,_,_,none⟩) (v:=?_) rfl (by kernel_rfl) (by kernel_rfl) (by kernel_rfl) (fun _ _ _ h=>h) (Or.inl ⟨by rfl,?_⟩) hS ?_
 rotate_left 1
 focus (intro w hSw;(try dsimp only at hSw);go_simp;try (with_reducible rfl))
 simp only [Act.put,xA,xB,xC]
 refine wpAnyH_take (i:=44) (oi:=⟨some 51,_,_,_,_,none⟩) (v:=?_) rfl (by kernel_rfl) (by kernel_rfl) (by kernel_rfl) (fun _ _ _ h=>h) (Or.inl ⟨by rfl,?_⟩) hS ?_
 rotate_left 1
 focus (intro w hSw;(try dsimp only at hSw);go_simp;try (with_reducible rfl))
 simp only [Act.put,xA,xB,xC]
 refine wpAnyH_take (i:=45) (oi:=⟨some 52,_,_,_,_,none⟩) (v:=?_) rfl (by kernel_rfl) (by kernel_rfl) (by kernel_rfl) (fun _ _ _ h=>h) (Or.inl ⟨by rfl,?_⟩) hS ?_
 rotate_left 1
 focus (intro w hSw;(try dsimp only at hSw);go_simp;try (with_reducible rfl))
 simp only [Act.put,xA,xB,xC]
 refine wpAnyH_take (i:=46) (oi:=⟨some 53,_,_,_,_,none⟩) (v:=?_) rfl (by kernel_rfl) (by kernel_rfl) (by kernel_rfl) (fun _ _ _ h=>h) (Or.inl ⟨by rfl,?_⟩) hS ?_
 rotate_left 1
 focus (intro w hSw;(try dsimp only at hSw);go_simp;try (with_reducible rfl))
 simp only [Act.put,xA,xB,xC]
 refine wpAnyH_take (i:=49) (oi:=⟨some 56,_,_,_,_,none⟩) (v:=?_) rfl (by kernel_rfl) (by kernel_rfl) (by kernel_rfl) (fun _ _ _ h=>h) (Or.inl ⟨by rfl,?_⟩) hS ?_
 rotate_left 1
 focus (intro w hSw;(try dsimp only at hSw);go_simp;try (with_reducible rfl))
 simp only [Act.put,xA,xB,xC]
 refine wpAnyH_take (i:=50) (oi:=⟨some 57,_,_,_,_,none⟩) (v:=?_) rfl (by kernel_rfl) (by kernel_rfl) (by kernel_rfl) (fun _ _ _ h=>h) (Or.inl ⟨by rfl,?_⟩) hS ?_
 rotate_left 1
 focus (intro w hSw;(try dsimp only at hSw);go_simp;try (with_reducible rfl))
 simp only [Act.put,xA,xB,xC]
 refine wpAnyH_take (i:=51) (oi:=⟨some 58,_,_,_,_,none⟩) (v:=?_) rfl (by kernel_rfl) (by kernel_rfl) (by kernel_rfl) (fun _ _ _ h=>h) (Or.inl ⟨by rfl,?_⟩) hS ?_
 rotate_left 1
 focus (intro w hSw;(try dsimp only at hSw);go_simp;try (with_reducible rfl))
 simp only [Act.put,xA,xB,xC]
 refine wpAnyH_take (i:=54) (oi:=⟨some 61,_,_,_,_,none⟩) (v:=?_) rfl (by kernel_rfl) (by kernel_rfl) (by kernel_rfl) (fun _ _ _ h=>h) (Or.inl ⟨by rfl,?_⟩) hS ?_
 rotate_left 1
 focus (intro w hSw;(try dsimp only at hSw);go_simp;try (with_reducible rfl))
 simp only [Act.put,xA,xB,xC]
 refine wpAnyH_take (i:=55) (oi:=⟨some 62,_,_,_,_,none⟩) (v:=?_) rfl (by kernel_rfl) (by kernel_rfl) (by kernel_rfl) (fun _ _ _ h=>h) (Or.inl ⟨by rfl,?_⟩) hS ?_
 rotate_left 1
 focus (intro w hSw;(try dsimp only at hSw);go_simp;try (with_reducible rfl))
 simp only [Act.put,xA,xB,xC]
 refine wpAnyH_take (i:=56) (oi:=⟨some 63,_,_,_,_,none⟩) (v:=?_) rfl (by kernel_rfl) (by kernel_rfl) (by kernel_rfl) (fun _ _ _ h=>h) (Or.inl ⟨by rfl,?_⟩) hS ?_
 rotate_left 1
 focus (intro w hSw;(try dsimp only at hSw);go_simp;try (with_reducible rfl))
 simp only [Act.put,xA,xB,xC]
 refine wpAnyH_take (i:=57) (oi:=⟨some 64,_,_,_,_,none⟩) (v:=?_) rfl (by kernel_rfl) (by kernel_rfl) (by kernel_rfl) (fun _ _ _ h=>h) (Or.inl ⟨by rfl,?_⟩) hS ?_
 rotate_left 1
 focus (intro w hSw;(try dsimp only at hSw);go_simp;try (with_reducible rfl))
 simp only [Act.put,xA,xB,xC]
 refine wpAnyH_take (i:=58) (oi:=⟨some 65,_,_,_,_,none⟩) (v:=?_) rfl (by kernel_rfl) (by kernel_rfl) (by kernel_rfl) (fun _ _ _ h=>h) (Or.inl ⟨by rfl,?_⟩) hS ?_
 rotate_left 1
 focus (intro w hSw;(try dsimp only at hSw);go_simp;try (with_reducible rfl))
 simp only [Act.put,xA,xB,xC]
 refine wpAnyH_take (i:=59) (oi:=⟨some 66,_,_,_,_,none⟩) (v:=?_) rfl (by kernel_rfl) (by kernel_rfl) (by kernel_rfl) (fun _ _ _ h=>h) (Or.inl ⟨by rfl,?_⟩) hS ?_
 rotate_left 1
 focus (intro w hSw;(try dsimp only at hSw);go_simp;try (with_reducible rfl))
 simp only [Act.put,xA,xB,xC]
 refine wpAnyH_take (i:=60) (oi:=⟨some 67,_,_,_,_,none⟩) (v:=?_) rfl (by kernel_rfl) (by kernel_rfl) (by kernel_rfl) (fun _ _ _ h=>h) (Or.inl ⟨by rfl,?_⟩) hS ?_
 rotate_left 1
 focus (intro w hSw;(try dsimp only at hSw);go_simp;try (with_reducible rfl))
 simp only [Act.put,xA,xB,xC]
 refine wpAnyH_take (i:=61) (oi:=⟨some 68,_,_,_,_,none⟩) (v:=?_) rfl (by kernel_rfl) (by kernel_rfl) (by kernel_rfl) (fun _ _ _ h=>h) (Or.inl ⟨by rfl,?_⟩) hS ?_
 rotate_left 1
 focus (intro w hSw;(try dsimp only at hSw);go_simp;try (with_reducible rfl))
 simp only [Act.put,xA,xB,xC]
 refine wpAnyH_take (i:=62) (oi:=⟨some 69,_,_,_,_,none⟩) (v:=?_) rfl (by kernel_rfl) (by kernel_rfl) (by kernel_rfl) (fun _ _ _ h=>h) (Or.inl ⟨by rfl,?_⟩) hS ?_
 rotate_left 1
 focus (intro w hSw;(try dsimp only at hSw);go_simp;try (with_reducible rfl))
 simp only [Act.put,xA,xB,xC]
 refine wpAnyH_take (i:=63) (oi:=⟨some 70,_,_,_,_,none⟩) (v:=?_) rfl (by kernel_rfl) (by kernel_rfl) (by kernel_rfl) (fun _ _ _ h=>h) (Or.inl ⟨by rfl,?_⟩) hS ?_
 rotate_left 1
 focus (intro w hSw;(try dsimp only at hSw);go_simp;try (with_reducible rfl))
 simp only [Act.put,xA,xB,xC]
 refine wpAnyH_take (i:=64) (oi:=⟨some 71,_,_,_,_,none⟩) (v:=?_) rfl (by kernel_rfl) (by kernel_rfl) (by kernel_rfl) (fun _ _ _ h=>h) (Or.inl ⟨by rfl,?_⟩) hS ?_
 rotate_left 1
 focus (intro w hSw;(try dsimp only at hSw);go_simp;try (with_reducible rfl))
 simp only [Act.put,xA,xB,xC]
 refine wpAnyH_take (i:=65) (oi:=⟨some 72,_,_,_,_,none⟩) (v:=?_) rfl (by kernel_rfl) (by kernel_rfl) (by kernel_rfl) (fun _ _ _ h=>h) (Or.inl ⟨by rfl,?_⟩) hS ?_
 rotate_left 1
 focus (intro w hSw;(try dsimp only at hSw);go_simp;try (with_reducible rfl))
 simp only [Act.put,xA,xB,xC]
 refine wpAnyH_ready (rs:=[1]) (by kernel_rfl) (by simp) ?_
 refine AllReadyH.cons (o:=⟨some 8,_,_,_,_,none⟩) rfl (fun K hK=>?_) AllReadyH.nil
 go_simp
 go_at_call 114
 refine (Bu.pad_n g _ _).mono ?_
 rintro e w1 ⟨rfl,rfl⟩
 try go_wp2_with fail
 refine hK.out _ _ (mp_keep hS (by first | (simp;done) | (simp;omega)) (by first | (simp;done) | (simp;omega)) (stA (stA (st0 _) _) _)) (fun hS'=>?_)
 clear hK K hS
 have hS:=hS'
 clear hS'
 try simp only [Act.put,xA,xB,xC]
 refine wpAnyH_take (i:=4) (oi:=⟨some 11,_,_,_,_,none⟩) (v:=?_) rfl (by kernel_rfl) (by kernel_rfl) (by kernel_rfl) (fun _ _ _ h=>h) (Or.inl ⟨by rfl,?_⟩) hS ?_
 rotate_left 1
 focus (intro w hSw;(try dsimp only at hSw);go_simp;try (with_reducible rfl))
 simp only [Act.put,xA,xB,xC]
 refine wpAnyH_ready (rs:=[6]) (by kernel_rfl) (by simp) ?_
 refine AllReadyH.cons (o:=⟨some 13,_,_,_,_,none⟩) rfl (fun K hK=>?_) AllReadyH.nil
 go_simp
 go_at_call 114
 refine (Bu.pad_n g _ _).mono ?_
 rintro e w1 ⟨rfl,rfl⟩
 try go_wp2_with fail
 refine hK.out _ _ (mp_keep hS (by first | (simp;done) | (simp;omega)) (by first | (simp;done) | (simp;omega)) (stA (stA (st0 _) _) _)) (fun hS'=>?_)
 clear hK K hS
 have hS:=hS'
 clear hS'
 try simp only [Act.put,xA,xB,xC]
 refine wpAnyH_take (i:=7) (oi:=⟨some 14,_,_,_,_,none⟩) (v:=?_) rfl (by kernel_rfl) (by kernel_rfl) (by kernel_rfl) (fun _ _ _ h=>h) (Or.inl ⟨by rfl,?_⟩) hS ?_
 rotate_left 1
 focus (intro w hSw;(try dsimp only at hSw);go_simp;try (with_reducible rfl))
 simp only [Act.put,xA,xB,xC]
 refine wpAnyH_ready (rs:=[12]) (by kernel_rfl) (by simp) ?_
 refine AllReadyH.cons (o:=⟨some 19,_,_,_,_,none⟩) rfl (fun K hK=>?_) AllReadyH.nil
 go_simp
 go_at_call 116
 refine (Bu.high_n g _ _).mono ?_
 rintro e w1 ⟨rfl,rfl⟩
 try go_wp2_with fail
 refine hK.out _ _ (mp_keep hS (by first | (simp;done) | (simp;omega)) (by first | (simp;done) | (simp;omega)) (stA (st0 _) _)) (fun hS'=>?_)
 clear hK K hS
 have hS:=hS'
 clear hS'
 try simp only [Act.put,xA,xB,xC]
 refine wpAnyH_take (i:=13) (oi:=⟨some 20,_,_,_,_,none⟩) (v:=?_) rfl (by kernel_rfl) (by kernel_rfl) (by kernel_rfl) (fun _ _ _ h=>h) (Or.inl ⟨by rfl,?_⟩) hS ?_
 rotate_left 1
 focus (intro w hSw;(try dsimp only at hSw);go_simp;try (with_reducible rfl))
 simp only [Act.put,xA,xB,xC]
 refine wpAnyH_ready (rs:=[18]) (by kernel_rfl) (by simp) ?_
 refine AllReadyH.cons (o:=⟨some 25,_,_,_,_,none⟩) rfl (fun K hK=>?_) AllReadyH.nil
 go_simp
 go_at_call 117
 refine (Bu.low_n g _ _).mono ?_
 rintro e w1 ⟨rfl,rfl⟩
 try go_wp2_with fail
 refine hK.out _ _ (mp_keep hS (by first | (simp;done) | (simp;omega)) (by first | (simp;done) | (simp;omega)) (stA (st0 _) _)) (fun hS'=>?_)
 clear hK K hS
 have hS:=hS'
 clear hS'
 try simp only [Act.put,xA,xB,xC]
 refine wpAnyH_take (i:=19) (oi:=⟨some 26,_,_,_,_,none⟩) (v:=?_) rfl (by kernel_rfl) (by kernel_rfl) (by kernel_rfl) (fun _ _ _ h=>h) (Or.inl ⟨by rfl,?_⟩) hS ?_
 rotate_left 1
 focus (intro w hSw;(try dsimp only at hSw);go_simp;try (with_reducible rfl))
 simp only [Act.put,xA,xB,xC]
 refine wpAnyH_ready (rs:=[37]) (by kernel_rfl) (by simp) ?_
 refine AllReadyH.cons (o:=⟨some 44,_,_,_,_,none⟩) rfl (fun K hK=>?_) AllReadyH.nil
 go_simp
 go_at_call 116
 refine (Bu.high_n g _ _).mono ?_
 rintro e w1 ⟨rfl,rfl⟩
 try go_wp2_with fail
 refine hK.out _ _ (mp_keep hS (by first | (simp;done) | (simp;omega)) (by first | (simp;done) | (simp;omega)) (stA (st0 _) _)) (fun hS'=>?_)
 clear hK K hS
 have hS:=hS'
 clear hS'
 try simp only [Act.put,xA,xB,xC]
 refine wpAnyH_take (i:=38) (oi:=⟨some 45,_,_,_,_,none⟩) (v:=?_) rfl (by kernel_rfl) (by kernel_rfl) (by kernel_rfl) (fun _ _ _ h=>h) (Or.inl ⟨by rfl,?_⟩) hS ?_
 rotate_left 1
 focus (intro w hSw;(try dsimp only at hSw);go_simp;try (with_reducible rfl))
 simp only [Act.put,xA,xB,xC]
 refine wpAnyH_ready (rs:=[42]) (by kernel_rfl) (by simp) ?_
 refine AllReadyH.cons (o:=⟨some 49,_,_,_,_,none⟩) rfl (fun K hK=>?_) AllReadyH.nil
 go_simp
 go_at_call 117
 refine (Bu.low_n g _ _).mono ?_
 rintro e w1 ⟨rfl,rfl⟩
 try go_wp2_with fail
 refine hK.out _ _ (mp_keep hS (by first | (simp;done) | (simp;omega)) (by first | (simp;done) | (simp;omega)) (stA (st0 _) _)) (fun hS'=>?_)
 clear hK K hS
 have hS:=hS'
 clear hS'
 try simp only [Act.put,xA,xB,xC]
 refine wpAnyH_take (i:=43) (oi:=⟨some 50,_,_,_,_,none⟩) (v:=?_) rfl (by kernel_rfl) (by kernel_rfl) (by kernel_rfl) (fun _ _ _ h=>h) (Or.inl ⟨by rfl,?_⟩) hS ?_
 rotate_left 1
 focus (intro w hSw;(try dsimp only at hSw);go_simp;try (with_reducible rfl))
 simp only [Act.put,xA,xB,xC]
 refine wpAnyH_ready (rs:=[47]) (by kernel_rfl) (by simp) ?_
 refine AllReadyH.cons (o:=⟨some 54,_,_,_,_,none⟩) rfl (fun K hK=>?_) AllReadyH.nil
 go_simp
 go_at_call 116
 refine (Bu.high_n g _ _).mono ?_
 rintro e w1 ⟨rfl,rfl⟩
 try go_wp2_with fail
 refine hK.out _ _ (mp_keep hS (by first | (simp;done) | (simp;omega)) (by first | (simp;done) | (simp;omega)) (stA (st0 _) _)) (fun hS'=>?_)
 clear hK K hS
 have hS:=hS'
 clear hS'
 try simp only [Act.put,xA,xB,xC]
 refine wpAnyH_take (i:=48) (oi:=⟨some 55,_,_,_,_,none⟩) (v:=?_) rfl (by kernel_rfl) (by kernel_rfl) (by kernel_rfl) (fun _ _ _ h=>h) (Or.inl ⟨by rfl,?_⟩) hS ?_
 rotate_left 1
 focus (intro w hSw;(try dsimp only at hSw);go_simp;try (with_reducible rfl))
 simp only [Act.put,xA,xB,xC]
 refine wpAnyH_ready (rs:=[52]) (by kernel_rfl) (by simp) ?_
 refine AllReadyH.cons (o:=⟨some 59,_,_,_,_,none⟩) rfl (fun K hK=>?_) AllReadyH.nil
 go_simp
 go_at_call 117
 refine (Bu.low_n g _ _).mono ?_
 rintro e w1 ⟨rfl,rfl⟩
 try go_wp2_with fail
 refine hK.out _ _ (mp_keep hS (by first | (simp;done) | (simp;omega)) (by first | (simp;done) | (simp;omega)) (stA (st0 _) _)) (fun hS'=>?_)
 clear hK K hS
 have hS:=hS'
 clear hS'
 try simp only [Act.put,xA,xB,xC]
 refine wpAnyH_take (i:=53) (oi:=⟨some 60,_,_,_,_,none⟩) (v:=?_) rfl (by kernel_rfl) (by kernel_rfl) (by kernel_rfl) (fun _ _ _ h=>h) (Or.inl ⟨by rfl,?_⟩) hS ?_
 rotate_left 1
 focus (intro w hSw;(try dsimp only at hSw);go_simp;try (with_reducible rfl))
 simp only [Act.put,xA,xB,xC]
 refine wpAnyH_take (i:=66) (oi:=⟨some 73,_,_,_,_,none⟩) (v:=?_) rfl (by kernel_rfl) (by kernel_rfl) (by kernel_rfl) (fun _ _ _ h=>h) (Or.inl ⟨by rfl,?_⟩) hS ?_
 rotate_left 1
 focus (intro w hSw;(try dsimp only at hSw);go_simp;try (with_reducible rfl))
 simp only [Act.put,xA,xB,xC]
 refine wpAnyH_ready (rs:=[67]) (by kernel_rfl) (by simp) ?_
 refine AllReadyH.cons (o:=⟨none,_,_,_,_,none⟩) rfl (fun K hK=>?_) AllReadyH.nil
 refine step_store_mid rfl 130 _ _ rfl w.heap.size 0 (mpL g w).toArray rfl rfl hS.2 info_ports (all_oneCell_toArray (mpL_one g w)) ?_
 refine hK.out _ _ (mp_last hS) (fun _=>?_)
 clear hK K
 refine wpAnyH_done (by kernel_rfl) ?_ _
 refine Pl.cutE (fun Y=>Below w.heap.size w Y/\Bx Y w.heap.size (mpL g w)/\EnvM g (mE w.heap.size) Y) ⟨?_,?_,?_⟩ ?_
 ·refine Bl.puts ?_ (Nat.le_refl _) _
  repeat' (first | exact st0 _ | refine Below.drew ?_ | refine stA ?_ _)
 ·refine mp_box g w ?_
  repeat' (first | exact Bx.new _ nil64 _ rfl | refine Bx.drew ?_ | refine Bx.over ?_ _)
 ·refine ⟨?_,?_,?_,?_,?_,?_,?_,?_,?_,?_,?_⟩
  all_goals refine Bx.fars ?_ (by show w.heap.size ≠ w.heap.size+_;omega) 0 _
  all_goals repeat' (first | exact Bx.new _ _ _ (by simp;rfl) | refine Bx.drew ?_ | refine Bx.over ?_ _)
 rintro Y ⟨hY1,hY2,hY3⟩
 have HY1:=hid hY1
 have HY2:=hid hY2
 have HY3:=hid hY3
 clear hY1 hY2 hY3 hS
 go_wp2
 rw [mpL_eq] at HY2
 exact bodyPost_ret (v:=.agg _) (by simp only [results,Tryz.results78];simp;exact Pl.res (load_ports (by rw [portsN_len]) HY2.out)) rfl ⟨rfl,HY1.out,HY3.out⟩
end Go.Proofs.YtbhpfkjfijdmaaaGreatDoor
