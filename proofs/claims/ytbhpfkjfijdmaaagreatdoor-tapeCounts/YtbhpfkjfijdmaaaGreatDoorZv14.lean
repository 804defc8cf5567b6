/-
  Parts of a proof, joined.
-/
import Derived.Test.YtbhpfkjfijdmaaaGreatDoorZv13
import Derived.Deep.RegionWith
import Derived.Deep.DeepCutAuto
namespace Go.Proofs.YtbhpfkjfijdmaaaGreatDoor
open Go.ChangeShapes Go.WideShapes Go.ChangeAt Go.RowKit
set_option linter.unusedVariables false
set_option maxRecDepth 100000
set_option maxHeartbeats 1600000
def Fx.memM (F:Fx) (a:Int):Value:=if a < 32768 then .pointer none else if a < 49152 then pt F.ra ((a - 32768) % 128).toNat else if a < 53248 then pt F.vi ((a - 49152) % 256).toNat else .pointer none
def Fx.memA (F:Fx) (M:Mach) (a:Int):Value:=if a < 32768 then .pointer none else if a < 49152 then pt F.ow ((a - 32768) % 64).toNat else if a < 53248 then (if M.granted then pt F.ra ((a - 49152) % 128).toNat else .pointer none) else .pointer none
section
variable {F : Fx} {W : World} {M : Mach} {tk : Tk}
theorem Bd.ramV (h:Bd F W M tk):∃ cap,F.S.ra = .slice (some ⟨F.ra,0,none⟩) 128 cap/\W.cell? ⟨F.g,32,none⟩=some (.slice (some ⟨F.ra,0,none⟩) 128 cap)/\Bx W F.ra (bcs M.ram):=by
 obtain ⟨cap,h1,_,h3⟩:=h.ra.some (by rw [h.fit.ram];omega)
 rw [h.fit.ram] at h1
 exact ⟨cap,h1,by rw [<- h1];exact h.at 32 _ rfl,h3⟩
theorem Bd.ownV (h:Bd F W M tk):∃ cap,F.S.ow = .slice (some ⟨F.ow,0,none⟩) 64 cap/\W.cell? ⟨F.g,33,none⟩=some (.slice (some ⟨F.ow,0,none⟩) 64 cap)/\Bx W F.ow (bcs M.own):=by
 obtain ⟨cap,h1,_,h3⟩:=h.ow.some (by rw [h.fit.own];omega)
 rw [h.fit.own] at h1
 exact ⟨cap,h1,by rw [<- h1];exact h.at 33 _ rfl,h3⟩
theorem Bd.viV (h:Bd F W M tk):∃ cap,F.S.vi = .slice (some ⟨F.vi,0,none⟩) 256 cap/\W.cell? ⟨F.g,34,none⟩=some (.slice (some ⟨F.vi,0,none⟩) 256 cap)/\Bx W F.vi (bcs M.video):=by
 obtain ⟨cap,h1,_,h3⟩:=h.vi.some (by rw [h.fit.video];omega)
 rw [h.fit.video] at h1
 exact ⟨cap,h1,by rw [<- h1];exact h.at 34 _ rfl,h3⟩
theorem Bu.mem_M (h:Bd F W M tk) (a:Int) (ha:0<=a/\a<=65535) :
 Calls Tryz.prog 77 #[pt F.g 0,.int .u16 a] W fun e w'=>e = .returned (F.memM a)/\W=w':=by
 obtain ⟨c1,_,e1,_⟩:=h.ramV
 obtain ⟨c2,_,e2,_⟩:=h.viV
 have hg:=h.bx.z
 clear h
 unfold Fx.memM
 by_cases h1:a < 32768
 ·rw [if_pos h1]
  have k1:¬ 32768<=a:=by omega
  have k2:¬ 49152<=a:=by omega
  go_enter Tryz.func77,Tryz.ntmps77
  go_wp2
  go_ret
  exact ⟨rfl,rfl⟩
 ·rw [if_neg h1]
  have k1:32768<=a:=by omega
  by_cases h2:a < 49152
  ·rw [if_pos h2]
   go_enter Tryz.func77,Tryz.ntmps77
   go_wp2_with (go_at_call 113;refine (Bu.cell_any F.ra 128 c1 (a - 32768) _ (by omega) (by omega) (by omega)).mono ?_;rintro e w1 ⟨rfl,rfl⟩)
   go_ret
   exact ⟨rfl,rfl⟩
  ·rw [if_neg h2]
   have k2:49152<=a:=by omega
   by_cases h3:a < 53248
   ·rw [if_pos h3]
    go_enter Tryz.func77,Tryz.ntmps77
    go_wp2_with (go_at_call 113;refine (Bu.cell_any F.vi 256 c2 (a - 49152) _ (by omega) (by omega) (by omega)).mono ?_;rintro e w1 ⟨rfl,rfl⟩)
    go_ret
    exact ⟨rfl,rfl⟩
   ·rw [if_neg h3]
    go_enter Tryz.func77,Tryz.ntmps77
    go_wp2
    go_ret
    exact ⟨rfl,rfl⟩
theorem Bu.mem_A (h:Bd F W M tk) (a:Int) (ha:0<=a/\a<=65535) :
 Calls Tryz.prog 79 #[pt F.g 0,.int .u16 a] W fun e w'=>e = .returned (F.memA M a)/\W=w':=by
 obtain ⟨c1,_,e1,_⟩:=h.ramV
 obtain ⟨c2,_,e2,_⟩:=h.ownV
 have hg:=h.bx.z
 have e3:=h.at 67 (.bool M.granted) rfl
 clear h
 unfold Fx.memA
 generalize M.granted=gr at *
 by_cases h1:a < 32768
 ·rw [if_pos h1]
  have k1:¬ 32768<=a:=by omega
  have k2:¬ 49152<=a:=by omega
  go_enter Tryz.func79,Tryz.ntmps79
  go_wp2
  go_ret
  exact ⟨rfl,rfl⟩
 ·rw [if_neg h1]
  have k1:32768<=a:=by omega
  by_cases h2:a < 49152
  ·rw [if_pos h2]
   go_enter Tryz.func79,Tryz.ntmps79
   go_wp2_with (go_at_call 113;refine (Bu.cell_any F.ow 64 c2 (a - 32768) _ (by omega) (by omega) (by omega)).mono ?_;rintro e w1 ⟨rfl,rfl⟩)
   go_ret
   exact ⟨rfl,rfl⟩
  ·rw [if_neg h2]
   have k2:49152<=a:=by omega
   by_cases h3:a < 53248
   ·rw [if_pos h3]
    cases gr
    ·go_enter Tryz.func79,Tryz.ntmps79
     go_wp2
     go_ret
     exact ⟨rfl,rfl⟩
    ·go_enter Tryz.func79,Tryz.ntmps79
     go_wp2_with (go_at_call 113;refine (Bu.cell_any F.ra 128 c1 (a - 49152) _ (by omega) (by omega) (by omega)).mono ?_;rintro e w1 ⟨rfl,rfl⟩)
     go_ret
     exact ⟨rfl,rfl⟩
   ·rw [if_neg h3]
    go_enter Tryz.func79,Tryz.ntmps79
    go_wp2
    go_ret
    exact ⟨rfl,rfl⟩
end
section
variable {F : Fx} {W : World} {M : Mach} {tk : Tk}
theorem Bd.mrV (h:Bd F W M tk):∃ ad cap,F.S.mr = .slice ad M.mrom.length cap/\W.cell? ⟨F.g,30,none⟩=some (.slice ad M.mrom.length cap)/\(0 < M.mrom.length->ad=some ⟨F.mr,0,none⟩/\Bx W F.mr (bcs M.mrom)):=by
 have hc:=h.at 30 F.S.mr rfl
 rcases h.mr with ⟨e,hl⟩ | ⟨cap,e,_,hb⟩
 ·exact ⟨none,0,by rw [e,hl];rfl,by rw [hc,e,hl];rfl,by rw [hl];simp⟩
 ·exact ⟨_,cap,e,by rw [hc,e],fun _=>⟨rfl,hb⟩⟩
theorem Bd.arV (h:Bd F W M tk):∃ ad cap,F.S.ar = .slice ad M.arom.length cap/\W.cell? ⟨F.g,31,none⟩=some (.slice ad M.arom.length cap)/\(0 < M.arom.length->ad=some ⟨F.ar,0,none⟩/\Bx W F.ar (bcs M.arom)):=by
 have hc:=h.at 31 F.S.ar rfl
 rcases h.ar with ⟨e,hl⟩ | ⟨cap,e,_,hb⟩
 ·exact ⟨none,0,by rw [e,hl];rfl,by rw [hc,e,hl];rfl,by rw [hl];simp⟩
 ·exact ⟨_,cap,e,by rw [hc,e],fun _=>⟨rfl,hb⟩⟩
theorem Bd.ramAt (h:Bd F W M tk) (i:Int) (h0:0<=i) (hi:i < 128):W.cell? ⟨F.ra,i.toNat,none⟩=some (.int .u8 (bget M.ram i))/\F.ra < W.heap.size/\W.frozen? ⟨F.ra,i.toNat,none⟩=false:=by
 obtain ⟨_,_,_,hb⟩:=h.ramV
 exact ⟨hb.at _ _ (bcs_at _ i h0 (by rw [h.fit.ram];exact hi)),hb.z,hb.f _⟩
theorem Bd.ownAt (h:Bd F W M tk) (i:Int) (h0:0<=i) (hi:i < 64):W.cell? ⟨F.ow,i.toNat,none⟩=some (.int .u8 (bget M.own i))/\F.ow < W.heap.size/\W.frozen? ⟨F.ow,i.toNat,none⟩=false:=by
 obtain ⟨_,_,_,hb⟩:=h.ownV
 exact ⟨hb.at _ _ (bcs_at _ i h0 (by rw [h.fit.own];exact hi)),hb.z,hb.f _⟩
theorem Bd.viAt (h:Bd F W M tk) (i:Int) (h0:0<=i) (hi:i < 256):W.cell? ⟨F.vi,i.toNat,none⟩=some (.int .u8 (bget M.video i))/\F.vi < W.heap.size/\W.frozen? ⟨F.vi,i.toNat,none⟩=false:=by
 obtain ⟨_,_,_,hb⟩:=h.viV
 exact ⟨hb.at _ _ (bcs_at _ i h0 (by rw [h.fit.video];exact hi)),hb.z,hb.f _⟩
theorem Bu.look_M (h:Bd F W M tk) (a:Int) (ha:0<=a/\a<=65535) :
 Calls Tryz.prog 136 #[pt F.g 77,.int .u16 a] W fun e w'=>e = .returned (.int .u8 (M.lookM a))/\W=w':=by
 obtain ⟨ad,cap,_,e30,hr⟩:=h.mrV
 have hg:=h.bx.z
 have e76:=h.at 77 (pt F.g 30) rfl
 have e77:=h.at 78 (mval 77 F.g 0) rfl
 have hmr:=h.fit.mrom
 have hm:=hid (Bu.mem_M h a ha)
 have H:=hid h
 clear h
 unfold Mach.lookM romAt
 unfold Fx.memM at hm
 by_cases h1:a < 32768
 ·rw [if_pos h1]
  rw [if_pos h1] at hm
  by_cases h2:a < M.mrom.length
  ·rw [if_pos h2]
   obtain ⟨rfl,hb⟩:=hr (by omega)
   have ec:=hb.at _ _ (bcs_at _ a ha.1 h2)
   have ez:=hb.z
   clear hr
   go_enter Tryz.func136,Tryz.ntmps136
   go_wp2
   go_ret
   exact ⟨rfl,rfl⟩
  ·rw [if_neg h2]
   clear hr
   go_enter Tryz.func136,Tryz.ntmps136
   go_wp2_with (go_at_call 77;refine hm.out.mono ?_;rintro e w1 ⟨rfl,rfl⟩)
   go_ret
   exact ⟨rfl,rfl⟩
 ·rw [if_neg h1]
  rw [if_neg h1] at hm
  by_cases h2:a < 49152
  ·rw [if_pos h2]
   rw [if_pos h2] at hm
   obtain ⟨ec,ez,_⟩:=H.out.ramAt ((a - 32768) % 128) (by omega) (by omega)
   clear hr
   go_enter Tryz.func136,Tryz.ntmps136
   go_wp2_with (go_at_call 77;refine hm.out.mono ?_;rintro e w1 ⟨rfl,rfl⟩)
   go_ret
   exact ⟨rfl,rfl⟩
  ·rw [if_neg h2]
   rw [if_neg h2] at hm
   by_cases h3:a < 53248
   ·rw [if_pos h3]
    rw [if_pos h3] at hm
    obtain ⟨ec,ez,_⟩:=H.out.viAt ((a - 49152) % 256) (by omega) (by omega)
    clear hr
    go_enter Tryz.func136,Tryz.ntmps136
    go_wp2_with (go_at_call 77;refine hm.out.mono ?_;rintro e w1 ⟨rfl,rfl⟩)
    go_ret
    exact ⟨rfl,rfl⟩
   ·rw [if_neg h3]
    rw [if_neg h3] at hm
    clear hr
    go_enter Tryz.func136,Tryz.ntmps136
    go_wp2_with (go_at_call 77;refine hm.out.mono ?_;rintro e w1 ⟨rfl,rfl⟩)
    go_ret
    exact ⟨rfl,rfl⟩
end
section
variable {F : Fx} {W : World} {M : Mach} {tk : Tk}
theorem Bd.at2 (h:Bd F W M tk) (n:Nat) (v:Value) (e:F.sideA[n]? = some v):W.cell? ⟨F.g,143+n,none⟩=some v:=by
 have hs:F.sideM.length=66:=by unfold Fx.sideM;rw [List.length_append,portsN_len];rfl
 exact h.at _ _ (app_at2 (machL M F.S) [.int .i64 tk.n,tk.v] [] F.sideA F.sideM 75 2 0 66 n v (machL_len M F.S) rfl hs rfl e)
theorem Bu.look_A (h:Bd F W M tk) (a:Int) (ha:0<=a/\a<=65535) :
 Calls Tryz.prog 136 #[pt F.g 143,.int .u16 a] W fun e w'=>e = .returned (.int .u8 (M.lookA a))/\W=w':=by
 obtain ⟨ad,cap,_,e31,hr⟩:=h.arV
 have hg:=h.bx.z
 have e76:=h.at2 0 (pt F.g 31) rfl
 have e77:=h.at2 1 (mval 79 F.g 0) rfl
 have hmr:=h.fit.arom
 have hm:=hid (Bu.mem_A h a ha)
 have H:=hid h
 clear h
 unfold Mach.lookA romAt
 unfold Fx.memA at hm
 by_cases h1:a < 32768
 ·rw [if_pos h1]
  rw [if_pos h1] at hm
  by_cases h2:a < M.arom.length
  ·rw [if_pos h2]
   obtain ⟨rfl,hb⟩:=hr (by omega)
   have ec:=hb.at _ _ (bcs_at _ a ha.1 h2)
   have ez:=hb.z
   clear hr
   go_enter Tryz.func136,Tryz.ntmps136
   go_wp2
   go_ret
   exact ⟨rfl,rfl⟩
  ·rw [if_neg h2]
   clear hr
   go_enter Tryz.func136,Tryz.ntmps136
   go_wp2_with (go_at_call 79;refine hm.out.mono ?_;rintro e w1 ⟨rfl,rfl⟩)
   go_ret
   exact ⟨rfl,rfl⟩
 ·rw [if_neg h1]
  rw [if_neg h1] at hm
  by_cases h2:a < 49152
  ·rw [if_pos h2]
   rw [if_pos h2] at hm
   obtain ⟨ec,ez,_⟩:=H.out.ownAt ((a - 32768) % 64) (by omega) (by omega)
   clear hr
   go_enter Tryz.func136,Tryz.ntmps136
   go_wp2_with (go_at_call 79;refine hm.out.mono ?_;rintro e w1 ⟨rfl,rfl⟩)
   go_ret
   exact ⟨rfl,rfl⟩
  ·rw [if_neg h2]
   rw [if_neg h2] at hm
   by_cases h3:a < 53248
   ·rw [if_pos h3]
    rw [if_pos h3] at hm
    obtain ⟨ec,ez,_⟩:=H.out.ramAt ((a - 49152) % 128) (by omega) (by omega)
    clear hr
    cases hgr:M.granted
    ·rw [hgr] at hm
     go_enter Tryz.func136,Tryz.ntmps136
     go_wp2_with (go_at_call 79;refine hm.out.mono ?_;rintro e w1 ⟨rfl,rfl⟩)
     go_ret
     exact ⟨rfl,rfl⟩
    ·rw [hgr] at hm
     go_enter Tryz.func136,Tryz.ntmps136
     go_wp2_with (go_at_call 79;refine hm.out.mono ?_;rintro e w1 ⟨rfl,rfl⟩)
     go_ret
     exact ⟨rfl,rfl⟩
   ·rw [if_neg h3]
    rw [if_neg h3] at hm
    clear hr
    go_enter Tryz.func136,Tryz.ntmps136
    go_wp2_with (go_at_call 79;refine hm.out.mono ?_;rintro e w1 ⟨rfl,rfl⟩)
    go_ret
    exact ⟨rfl,rfl⟩
def GetM (F:Fx) (M:Mach) (tk:Tk) (i:Nat):Prop:=∀ W,Bd F W M tk->Calls Tryz.prog 135 #[.agg #[F.rdM i,F.wrM i]] W fun e w'=>e = .returned (.int .u8 (M.portM i).1)/\Bd F w' (M.portM i).2 tk/\Bt F W w'
def GetA (F:Fx) (M:Mach) (tk:Tk) (i:Nat):Prop:=∀ W,Bd F W M tk->Calls Tryz.prog 135 #[.agg #[F.rdA i,F.wrA i]] W fun e w'=>e = .returned (.int .u8 (M.portA i).1)/\Bd F w' (M.portA i).2 tk/\Bt F W w'
def PutM (F:Fx) (M:Mach) (tk:Tk) (i:Nat) (n:Int):Prop:=∀ W,Bd F W M tk->Calls Tryz.prog 137 #[.agg #[F.rdM i,F.wrM i],.int .u8 n] W fun e w'=>e = .returned (.tuple #[])/\Bd F w' (M.putM i n) (tk.add (takes i n))/\Bt F W w'
def PutA (F:Fx) (M:Mach) (tk:Tk) (i:Nat) (n:Int):Prop:=∀ W,Bd F W M tk->Calls Tryz.prog 137 #[.agg #[F.rdA i,F.wrA i],.int .u8 n] W fun e w'=>e = .returned (.tuple #[])/\(∃ v,Bd F w' (M.putA i n) (tk.app (shown M.clock i n) v))/\Bw F W w'
theorem Bd.pM (h:Bd F W M tk) (i:Nat) (hi:i < 32):W.cell? ⟨F.g,79+i * 2,none⟩=some (F.rdM i)/\W.cell? ⟨F.g,79+i * 2+1,none⟩=some (F.wrM i):=by
 obtain ⟨h1,h2⟩:=F.portM M tk i hi
 rw [Nat.mul_comm i 2]
 exact ⟨h.at _ _ h1,h.at _ _ h2⟩
theorem Bd.pA (h:Bd F W M tk) (i:Nat) (hi:i < 32):W.cell? ⟨F.g,145+i * 2,none⟩=some (F.rdA i)/\W.cell? ⟨F.g,145+i * 2+1,none⟩=some (F.wrA i):=by
 obtain ⟨h1,h2⟩:=F.portA M tk i hi
 rw [Nat.mul_comm i 2]
 exact ⟨h.at _ _ h1,h.at _ _ h2⟩
theorem Bu.read_M (h:Bd F W M tk) (a:Int) (ha:0<=a/\a<=65535) (hp:∀ i,i < 32->GetM F M tk i) :
 Calls Tryz.prog 82 #[pt F.g 77,.int .u16 a] W fun e w'=>e = .returned (.int .u8 (M.rdM a).1)/\Bd F w' (M.rdM a).2 tk/\Bt F W w':=by
 unfold Mach.rdM
 cases hP:isPort a
 ·have hl:=hid (Bu.look_M h a ha)
  have hP':=hid hP
  have H:=hid h
  clear h hP hp
  go_enter Tryz.func82,Tryz.ntmps82
  go_wp2_with (first
   | (go_at_call 134;refine (Bu.isPort_any a _ ha).mono ?_;rw [hP'.out];rintro e w1 ⟨rfl,rfl⟩)
   | (go_at_call 136;refine hl.out.mono ?_;rintro e w1 ⟨rfl,rfl⟩))
  go_ret
  exact ⟨rfl,H.out,Bt.refl _ _⟩
 ·obtain ⟨n,hn⟩:∃ n:Nat,a % 32=n:=⟨(a % 32).toNat,by omega⟩
  have hn2:n < 32:=by omega
  have hm:Int.tmod a 32=n:=by rw [Int.tmod_eq_emod_of_nonneg ha.1,hn]
  have hq:=hid (hp n hn2 W h)
  have hP':=hid hP
  have e0:portNo a=n:=by unfold portNo;omega
  rw [e0]
  obtain ⟨c0,c1⟩:=h.pM n hn2
  have hg:=h.bx.z
  have hn3:(n:Int) < 32:=by omega
  clear h hP hp e0
  generalize F.rdM n=vr at *
  generalize F.wrM n=vw at *
  go_enter Tryz.func82,Tryz.ntmps82
  go_wp2_with (first
   | (go_at_call 134;refine (Bu.isPort_any a _ ha).mono ?_;rw [hP'.out];rintro e w1 ⟨rfl,rfl⟩)
   | (go_at_call 135;refine hq.out.mono ?_;rintro e w1 ⟨rfl,hB1,hB2⟩))
  go_ret
  exact ⟨rfl,hB1,hB2⟩
end
section
variable {F : Fx} {W : World} {M : Mach} {tk : Tk}
theorem two_or (a b:Bool):bits .or .u8 (sel a 1 0) (sel b 2 0)=two a b:=by cases a <;> cases b <;> rfl
theorem Bu.timer_r (h:Bd F W M tk):Calls Tryz.prog 118 #[pt F.g 0] W fun e w'=>e = .returned (.int .u8 (two M.t.on M.t.g))/\Bd F w' M tk/\Bt F W w':=by
 have c1:=h.at 43 (.bool M.t.on) rfl
 have c2:=h.at 44 (.bool M.t.g) rfl
 have hg:=h.bx.z
 have H:=hid h
 clear h
 rw [<- two_or]
 generalize M.t.on=x at *
 generalize M.t.g=y at *
 go_enter Tryz.func118,Tryz.ntmps118
 go_wp2
 go_region_held3 (fun w'=>w'.cell? ⟨F.g,43,none⟩=some (.bool x)/\w'.cell? ⟨F.g,44,none⟩=some (.bool y))
  ((go_keep;done))
  ((go_at_call 165;refine (Bu.bits_any _ _ _).mono ?_;rintro e w1 ⟨rfl,rfl⟩))
 go_wp2
 go_ret
 exact ⟨rfl,H.out.drew,(Bt.refl _ _).drew⟩
theorem Bu.aux_r (h:Bd F W M tk):Calls Tryz.prog 125 #[pt F.g 0] W fun e w'=>e = .returned (.int .u8 (two M.granted M.held))/\Bd F w' M tk/\Bt F W w':=by
 have c1:=h.at 67 (.bool M.granted) rfl
 have c2:=h.at 68 (.bool M.held) rfl
 have hg:=h.bx.z
 have H:=hid h
 clear h
 rw [<- two_or]
 generalize M.granted=x at *
 generalize M.held=y at *
 go_enter Tryz.func125,Tryz.ntmps125
 go_wp2
 go_region_with (go_at_call 165;refine (Bu.bits_any _ _ _).mono ?_;rintro e w1 ⟨rfl,rfl⟩)
 all_goals
  go_wp2
  go_ret
  exact ⟨rfl,H.out.drew,(Bt.refl _ _).drew⟩
theorem Bu.beam_r (h:Bd F W M tk):Calls Tryz.prog 122 #[pt F.g 0] W fun e w'=>e = .returned (.int .u8 (two M.b.g false))/\Bd F w' M tk/\Bt F W w':=by
 have c1:=h.at 63 (.bool M.b.g) rfl
 have hg:=h.bx.z
 have H:=hid h
 clear h
 rw [show two M.b.g false=sel M.b.g 1 0 by cases M.b.g <;> rfl]
 generalize M.b.g=x at *
 go_enter Tryz.func122,Tryz.ntmps122
 go_wp2_with (go_at_call 165;refine (Bu.bits_any _ _ _).mono ?_;rintro e w1 ⟨rfl,rfl⟩)
 go_ret
 exact ⟨rfl,H.out,Bt.refl _ _⟩
theorem Bu.line_r (h:Bd F W M tk):Calls Tryz.prog 120 #[pt F.E.mb 0] W fun e w'=>e = .returned (.int .u8 M.b.l)/\Bd F w' M tk/\Bt F W w':=by
 have c1:=h.at 61 (.int .i64 M.b.l) rfl
 have hg:=h.bx.z
 obtain ⟨z1,e1⟩:=h.env _ _ .mb
 have b0:=h.fit.b.l0
 have b1:=h.fit.b.l1
 have H:=hid h
 clear h
 go_enter Tryz.func120,Tryz.ntmps120
 go_wp2
 go_ret
 exact ⟨rfl,H.out,Bt.refl _ _⟩
theorem Bu.at_r (h:Bd F W M tk):Calls Tryz.prog 121 #[pt F.E.mb 0] W fun e w'=>e = .returned (.int .u8 M.b.a)/\Bd F w' M tk/\Bt F W w':=by
 have c1:=h.at 62 (.int .i64 M.b.a) rfl
 have hg:=h.bx.z
 obtain ⟨z1,e1⟩:=h.env _ _ .mb
 have b0:=h.fit.b.a0
 have b1:=h.fit.b.a1
 have H:=hid h
 clear h
 go_enter Tryz.func121,Tryz.ntmps121
 go_wp2
 go_ret
 exact ⟨rfl,H.out,Bt.refl _ _⟩
theorem Bu.mail_r (h:Bd F W M tk):Calls Tryz.prog 127 #[pt F.E.mb 0] W fun e w'=>e = .returned (.int .u8 M.m1)/\Bd F w' M tk/\Bt F W w':=by
 have c1:=h.at 70 (.int .u8 M.m1) rfl
 have hg:=h.bx.z
 obtain ⟨z1,e1⟩:=h.env _ _ .mb
 have H:=hid h
 clear h
 go_enter Tryz.func127,Tryz.ntmps127
 go_wp2
 go_ret
 exact ⟨rfl,H.out,Bt.refl _ _⟩
theorem Bu.take_r (h:Bd F W M tk):Calls Tryz.prog 129 #[pt F.g 0] W fun e w'=>e = .returned (.int .u8 M.m0)/\Bd F w' { M with rung:=false } tk/\Bt F W w':=by
 have c1:=h.at 69 (.int .u8 M.m0) rfl
 have c2:=h.at 71 (.bool M.rung) rfl
 have c3:=h.bx.f 71
 have hg:=h.bx.z
 have H:=hid h
 clear h
 go_enter Tryz.func129,Tryz.ntmps129
 go_wp2
 go_ret
 exact ⟨rfl,H.out.put 71 _ (by omega) rfl ⟨rfl,rfl,rfl,rfl,rfl⟩ { H.out.fit with main:=H.out.fit.main },(Bt.refl _ _).set H.out.nd _ _⟩
end
section
variable {F : Fx} {W : World} {M M' : Mach} {tk : Tk}
theorem Mach.fit.of {M M':Mach} (h:M.fit) (hok:M'.ok) (hl:M'.mrom=M.mrom/\M'.arom=M.arom/\M'.ram.length=M.ram.length/\M'.own.length=M.own.length/\M'.video.length=M.video.length) (hw:M'.s.w=M.s.w) (hb:M'.b.l=M.b.l/\M'.b.a=M.b.a/\M'.b.f=M.b.f) (hc:M'.clock=M.clock/\M'.mready=M.mready) (ha:M'.aready=M.aready \/ M'.aready=M.clock):M'.fit:=by
 obtain ⟨l1,l2,l3,l4,l5⟩:=hl
 obtain ⟨b1,b2,b3⟩:=hb
 obtain ⟨c1,c2⟩:=hc
 refine ⟨hok,?_,?_,?_,?_,?_,?_,?_,?_,?_,?_⟩
 ·rw [l1];exact h.mrom
 ·rw [l2];exact h.arom
 ·rw [l3];exact h.ram
 ·rw [l4];exact h.own
 ·rw [l5];exact h.video
 ·rw [hw];exact h.w
 ·rw [b1,b2,b3];exact h.b
 ·rw [c1];exact h.clock
 ·rw [c1,c2];exact h.mready
 ·rw [c1]
  have:=h.clock
  rcases ha with e | e
  ·rw [e];exact h.aready
  ·rw [e];omega
theorem hiB_bd {w b:Int} (hw:bd16 w) (hb:0<=b/\b<=255):bd16 (hiB w b):=by unfold bd16 hiB at *;omega
theorem loB_bd {w b:Int} (hw:bd16 w) (hb:0<=b/\b<=255):bd16 (loB w b):=by unfold bd16 loB at *;omega
theorem keep_far {W:World} {b o x i:Nat} {v u:Value} (hne:x ≠ b) (h:W.cell? ⟨x,i,none⟩=some u):(W.setCell ⟨b,o,none⟩ v).drew.cell? ⟨x,i,none⟩=some u:=(World.cell?_of_block (w:=W) (heap_set_far (o:=o) (v:=v) hne)).trans h
theorem Bu.high_w (h:Bd F W M tk) (x o:Nat) (cur n:Int) (hx:F.has x (pt F.g o)) (hc:(F.cells M tk)[o]? = some (.int .u16 cur)) (hcur:bd16 cur) (hn:0<=n/\n<=255) (ho:o < 209)
 (hs:(F.cells M tk).set o (.int .u16 (hiB cur n))=F.cells M' tk) (hm:M'.mrom=M.mrom/\M'.arom=M.arom/\M'.ram=M.ram/\M'.own=M.own/\M'.video=M.video) (hf:M'.fit) :
 Calls Tryz.prog 163 #[.int .u8 n,pt x 0] W fun e w'=>e = .returned (.tuple #[])/\Bd F w' M' tk/\Bt F W w':=by
 have c1:=h.at o _ hc
 have f1:=h.bx.f o
 have hg:=h.bx.z
 obtain ⟨z1,e1⟩:=h.env _ _ hx
 have hne:x ≠ F.g:=fun e=>h.nd.env _ _ hx (Or.inl e)
 have H:=hid h
 have HS:=hid hs
 have HM:=hid hm
 clear h hs hm
 go_enter Tryz.func163,Tryz.ntmps163
 go_wp2_with (go_at_call 109;refine (Lnbytes_any cur _ hcur).mono ?_;rintro e w1 ⟨rfl,rfl⟩)
 go_region_held3 (fun w'=>w'.cell? ⟨x,0,none⟩=some (pt F.g o))
  ((first | (with_reducible exact keep_far hne e1) | (go_keep;done)))
  ((go_at_call 133;refine (Lnof_any n (cur % 256) _ hn (by omega)).mono ?_;rintro e w1 ⟨rfl,rfl⟩))
 go_wp2
 go_end0
 exact ⟨rfl,(H.out.put o _ ho HS.out HM.out hf).drew,((Bt.refl _ _).set H.out.nd _ _).drew⟩
theorem Bu.low_w (h:Bd F W M tk) (x o:Nat) (cur n:Int) (hx:F.has x (pt F.g o)) (hc:(F.cells M tk)[o]? = some (.int .u16 cur)) (hcur:bd16 cur) (hn:0<=n/\n<=255) (ho:o < 209)
 (hs:(F.cells M tk).set o (.int .u16 (loB cur n))=F.cells M' tk) (hm:M'.mrom=M.mrom/\M'.arom=M.arom/\M'.ram=M.ram/\M'.own=M.own/\M'.video=M.video) (hf:M'.fit) :
 Calls Tryz.prog 164 #[.int .u8 n,pt x 0] W fun e w'=>e = .returned (.tuple #[])/\Bd F w' M' tk/\Bt F W w':=by
 have c1:=h.at o _ hc
 have f1:=h.bx.f o
 have hg:=h.bx.z
 obtain ⟨z1,e1⟩:=h.env _ _ hx
 have hne:x ≠ F.g:=fun e=>h.nd.env _ _ hx (Or.inl e)
 have H:=hid h
 have HS:=hid hs
 have HM:=hid hm
 clear h hs hm
 go_enter Tryz.func164,Tryz.ntmps164
 go_wp2_with (go_at_call 109;refine (Lnbytes_any cur _ hcur).mono ?_;rintro e w1 ⟨rfl,rfl⟩)
 go_region_held3 (fun w'=>w'.cell? ⟨x,0,none⟩=some (pt F.g o))
  ((first | (with_reducible exact keep_far hne e1) | (go_keep;done)))
  ((go_at_call 133;refine (Lnof_any (cur / 256) n _ (by unfold bd16 at hcur;omega) hn).mono ?_;rintro e w1 ⟨rfl,rfl⟩))
 go_wp2
 go_end0
 exact ⟨rfl,(H.out.put o _ ho HS.out HM.out hf).drew,((Bt.refl _ _).set H.out.nd _ _).drew⟩
theorem Bu.beam_w (h:Bd F W M tk) (n:Int):Calls Tryz.prog 123 #[pt F.g 0,.int .u8 n] W fun e w'=>e = .returned (.tuple #[])/\Bd F w' (M.putM 8 n) tk/\Bt F W w':=by
 have c2:=h.at 63 (.bool M.b.g) rfl
 have c3:=h.bx.f 63
 have hg:=h.bx.z
 have H:=hid h
 clear h
 go_enter Tryz.func123,Tryz.ntmps123
 go_wp2
 go_end0
 exact ⟨rfl,H.out.put 63 _ (by omega) rfl ⟨rfl,rfl,rfl,rfl,rfl⟩ { H.out.fit with main:=H.out.fit.main },(Bt.refl _ _).set H.out.nd _ _⟩
theorem Bu.mail_w (h:Bd F W M tk) (n:Int) (hn:0<=n/\n<=255):Calls Tryz.prog 128 #[pt F.g 0,.int .u8 n] W fun e w'=>e = .returned (.tuple #[])/\Bd F w' (M.putM 17 n) tk/\Bt F W w':=by
 have c2:=h.at 71 (.bool M.rung) rfl
 have c3:=h.bx.f 71
 have c4:=h.at 69 (.int .u8 M.m0) rfl
 have c5:=h.bx.f 69
 have hg:=h.bx.z
 have H:=hid h
 clear h
 go_enter Tryz.func128,Tryz.ntmps128
 go_wp2
 go_end0
 have hq:Mach.fit { M with m0:=n }:={ H.out.fit with main:=H.out.fit.main,m0:=hn }
 exact ⟨rfl,(H.out.put (M':={ M with m0:=n }) (tk':=tk) 69 _ (by omega) rfl ⟨rfl,rfl,rfl,rfl,rfl⟩ hq).put 71 _ (by omega) rfl ⟨rfl,rfl,rfl,rfl,rfl⟩ { hq with main:=hq.main },((Bt.refl _ _).set H.out.nd _ _).set H.out.nd _ _⟩
theorem Bu.mail_a (h:Bd F W M tk) (n:Int) (hn:0<=n/\n<=255):Calls Tryz.prog 130 #[.int .u8 n,pt F.E.ab 0] W fun e w'=>e = .returned (.tuple #[])/\Bd F w' { M with m1:=n } tk/\Bt F W w':=by
 have c2:=h.at 70 (.int .u8 M.m1) rfl
 have c3:=h.bx.f 70
 have hg:=h.bx.z
 obtain ⟨z1,e1⟩:=h.env _ _ .ab
 have H:=hid h
 clear h
 go_enter Tryz.func130,Tryz.ntmps130
 go_wp2
 go_end0
 exact ⟨rfl,H.out.put 70 _ (by omega) rfl ⟨rfl,rfl,rfl,rfl,rfl⟩ { H.out.fit with main:=H.out.fit.main,m1:=hn },(Bt.refl _ _).set H.out.nd _ _⟩
end
section
variable {F : Fx} {W : World} {M M' : Mach} {tk : Tk}
theorem Pd.next_ok {p:Pd} (h:p.ok):p.next.ok:=by
 obtain ⟨hd,hs⟩:=h
 refine ⟨hd,?_⟩
 unfold Pd.next
 refine sel_ind (P:=fun x=>0<=x/\x<=255) p.l hs ?_
 omega
theorem Pd.wr_ok {p:Pd} (h:p.ok) (x:Int):(p.wr x).ok:=by
 obtain ⟨hd,hs⟩:=h
 refine ⟨hd,?_⟩
 unfold Pd.wr
 exact sel_ind (P:=fun x=>0<=x/\x<=255) _ hd hs
theorem lt_new {W w1:World} {o:Obj} (hb:Below ((W.alloc o).drew).heap.size (W.alloc o).drew w1):W.heap.size < w1.heap.size:=Nat.lt_of_lt_of_le (by simp) hb.size
theorem lt_old {W w0 w1:World} {g:Nat} (hg:g < W.heap.size) (hb:Below w0.heap.size w0 w1) (h:W.heap.size<=w0.heap.size):g < w1.heap.size:=Nat.lt_of_lt_of_le hg (Nat.le_trans h hb.size)
structure PdC (F : Fx) (W : World) (M : Mach) (tk : Tk) (b : Nat) (p : Pd) (wx : World) : Prop where
 bd:Bd F wx M tk
 bt:Bt F W wx
 bx:Bx wx b [.int .u8 p.d,.bool p.l,.int .u8 p.s]
 ne:b ≠ F.g
theorem PdC.mkA {w1:World} {p:Pd} (h:Bd F W M tk) (hb:Below W.drew.heap.size W.drew w1):PdC F W M tk w1.heap.size p (w1.alloc (.cells #[.int .u8 p.d,.bool p.l,.int .u8 p.s] 28)):=by
 have hB:Below W.heap.size W w1:=stp (st0 W).drew hb
 have hz:=Nat.lt_of_lt_of_le h.bx.z hB.size
 exact ⟨(h.kept hB).over _,Bt.kept (Bt.refl F W) h.big (stA hB _),Bx.new w1 [.int .u8 p.d,.bool p.l,.int .u8 p.s] _ rfl,by omega⟩
theorem PdC.mkB {w1:World} {p:Pd} (h:Bd F W M tk) {x y z:Value} (hb:Below ((W.alloc (.cells #[x,y,z] 28)).drew).heap.size (W.alloc (.cells #[x,y,z] 28)).drew w1) :
 PdC F W M tk W.heap.size p (((w1.setCell ⟨W.heap.size,0,none⟩ (.int .u8 p.d)).setCell ⟨W.heap.size,1,none⟩ (.bool p.l)).setCell ⟨W.heap.size,2,none⟩ (.int .u8 p.s)):=by
 have hB:Below W.heap.size W w1:=stp (stA (st0 W) _).drew hb
 have hB2:Below W.heap.size W (((w1.setCell ⟨W.heap.size,0,none⟩ (.int .u8 p.d)).setCell ⟨W.heap.size,1,none⟩ (.bool p.l)).setCell ⟨W.heap.size,2,none⟩ (.int .u8 p.s)):=((hB.setCell (Nat.le_refl _) _).setCell (Nat.le_refl _) _).setCell (Nat.le_refl _) _
 have hx:=((Bx.new W [x,y,z] 28 rfl).drew.kept hb).puts 0 [.int .u8 p.d,.bool p.l,.int .u8 p.s] (by simp)
 have:=h.bx.z
 exact ⟨h.kept hB2,Bt.kept (Bt.refl F W) h.big hB2,hx,by omega⟩
theorem PdC.all {wx:World} {b:Nat} {p:Pd} (h:PdC F W M tk b p wx):wx.cell? ⟨b,0,none⟩=some (.int .u8 p.d)/\wx.cell? ⟨b,1,none⟩=some (.bool p.l)/\wx.cell? ⟨b,2,none⟩=some (.int .u8 p.s):=⟨h.bx.at 0 _ rfl,h.bx.at 1 _ rfl,h.bx.at 2 _ rfl⟩
theorem Bu.pad0_r (h:Bd F W M tk):Calls Tryz.prog 160 #[pt F.E.q0 0,pt F.E.w0 0] W fun e w'=>e = .returned (.int .u8 (M.portM 0).1)/\Bd F w' (M.portM 0).2 tk/\Bt F W w':=by
 have c0:=h.at 35 (.int .u8 M.p0.d) rfl
 have c1:=h.at 36 (.bool M.p0.l) rfl
 have c2:=h.at 37 (.int .u8 M.p0.s) rfl
 have hg:=h.bx.z
 obtain ⟨y1,e1⟩:=h.env _ _ .q0
 obtain ⟨y2,e2⟩:=h.env _ _ .w0
 have hp:=h.fit.p0
 have H:=hid h
 clear h
 go_enter Tryz.func160,Tryz.ntmps160
 go_upto_region 1 with fail
 go_cut [0,1,3,4] (fun v0 v1 v3 v4 wx=>v0=pt F.E.q0 0/\v1=pt F.E.w0 0/\v3 = .int .u8 M.p0.rd /\ ∃ b,v4=pt b 0/\PdC F W M tk b M.p0.next wx)
 case first =>
  go_region_with (go_at_call 161;refine (read_pad _ _ _ _ hp.d hp.s).mono ?_;rintro e w1 ⟨rfl,hb1⟩;obtain ⟨k1,f1⟩:=bcell hb1;try (have z1:=lt_new hb1);have z2:F.g < w1.heap.size:=lt_old hg hb1 (by simp))
  all_goals (go_wp2_with fail;go_meet)
  all_goals refine ⟨rfl,rfl,rfl,_,rfl,?_⟩
  all_goals first
   | exact PdC.mkB H.out hb1
   | exact PdC.mkA H.out hb1
 case rest =>
  obtain ⟨rfl,rfl,rfl,b,rfl,hC⟩:=hcut
  obtain ⟨d0,d1,d2⟩:=hC.all
  have c0:=hC.bd.at 35 (.int .u8 M.p0.d) rfl
  have c1:=hC.bd.at 36 (.bool M.p0.l) rfl
  have c2:=hC.bd.at 37 (.int .u8 M.p0.s) rfl
  have f0:=hC.bd.bx.f
  have hg:=hC.bd.bx.z
  have hbz:=hC.bx.z
  obtain ⟨y1,e1⟩:=hC.bd.env _ _ .q0
  obtain ⟨y2,e2⟩:=hC.bd.env _ _ .w0
  have HC:=hid hC
  clear hC
  go_wp2
  go_region_with fail
  all_goals go_wp2
  all_goals go_ret
  all_goals
   refine ⟨rfl,?_,?_⟩
   ·exact HC.out.bd.drew.puts (M':={ M with p0:=M.p0.next }) (tk':=tk) 35 [.int .u8 M.p0.next.d,.bool M.p0.next.l,.int .u8 M.p0.next.s] (by simp) rfl ⟨rfl,rfl,rfl,rfl,rfl⟩ { HC.out.bd.fit with main:=HC.out.bd.fit.main,p0:=Pd.next_ok HC.out.bd.fit.p0 }
   ·exact Bt.sets HC.out.bd.nd [.int .u8 M.p0.next.d,.bool M.p0.next.l,.int .u8 M.p0.next.s] 35 _ HC.out.bt.drew
end
section
variable {F : Fx} {W : World} {M M' : Mach} {tk : Tk}
theorem Bu.pad1_r (h:Bd F W M tk):Calls Tryz.prog 160 #[pt F.E.q1 0,pt F.E.w1 0] W fun e w'=>e = .returned (.int .u8 (M.portM 1).1)/\Bd F w' (M.portM 1).2 tk/\Bt F W w':=by
 have c0:=h.at 38 (.int .u8 M.p1.d) rfl
 have c1:=h.at 39 (.bool M.p1.l) rfl
 have c2:=h.at 40 (.int .u8 M.p1.s) rfl
 have hg:=h.bx.z
 obtain ⟨y1,e1⟩:=h.env _ _ .q1
 obtain ⟨y2,e2⟩:=h.env _ _ .w1
 have hp:=h.fit.p1
 have H:=hid h
 clear h
 go_enter Tryz.func160,Tryz.ntmps160
 go_upto_region 1 with fail
 go_cut [0,1,3,4] (fun v0 v1 v3 v4 wx=>v0=pt F.E.q1 0/\v1=pt F.E.w1 0/\v3 = .int .u8 M.p1.rd /\ ∃ b,v4=pt b 0/\PdC F W M tk b M.p1.next wx)
 case first =>
  go_region_with (go_at_call 161;refine (read_pad _ _ _ _ hp.d hp.s).mono ?_;rintro e w1 ⟨rfl,hb1⟩;obtain ⟨k1,f1⟩:=bcell hb1;try (have z1:=lt_new hb1);have z2:F.g < w1.heap.size:=lt_old hg hb1 (by simp))
  all_goals (go_wp2_with fail;go_meet)
  all_goals refine ⟨rfl,rfl,rfl,_,rfl,?_⟩
  all_goals first
   | exact PdC.mkB H.out hb1
   | exact PdC.mkA H.out hb1
 case rest =>
  obtain ⟨rfl,rfl,rfl,b,rfl,hC⟩:=hcut
  obtain ⟨d0,d1,d2⟩:=hC.all
  have c0:=hC.bd.at 38 (.int .u8 M.p1.d) rfl
  have c1:=hC.bd.at 39 (.bool M.p1.l) rfl
  have c2:=hC.bd.at 40 (.int .u8 M.p1.s) rfl
  have f0:=hC.bd.bx.f
  have hg:=hC.bd.bx.z
  have hbz:=hC.bx.z
  obtain ⟨y1,e1⟩:=hC.bd.env _ _ .q1
  obtain ⟨y2,e2⟩:=hC.bd.env _ _ .w1
  have HC:=hid hC
  clear hC
  go_wp2
  go_region_with fail
  all_goals go_wp2
  all_goals go_ret
  all_goals
   refine ⟨rfl,?_,?_⟩
   ·exact HC.out.bd.drew.puts (M':={ M with p1:=M.p1.next }) (tk':=tk) 38 [.int .u8 M.p1.next.d,.bool M.p1.next.l,.int .u8 M.p1.next.s] (by simp) rfl ⟨rfl,rfl,rfl,rfl,rfl⟩ { HC.out.bd.fit with main:=HC.out.bd.fit.main,p1:=Pd.next_ok HC.out.bd.fit.p1 }
   ·exact Bt.sets HC.out.bd.nd [.int .u8 M.p1.next.d,.bool M.p1.next.l,.int .u8 M.p1.next.s] 38 _ HC.out.bt.drew
end
end Go.Proofs.YtbhpfkjfijdmaaaGreatDoor
