/-
  Parts of a proof, joined.
-/
import Derived.Test.YtbennamieealbaaGreatDoorZg06
import Derived.Deep.RegionWith
set_option linter.unusedVariables false
set_option maxRecDepth 100000
set_option maxHeartbeats 1600000
namespace Go.Proofs.YtbennamieealbaaGreatDoor
open Go.ChangeShapes Go.WideShapes Go.ChangeAt Go.RowKit
def Fx.memM (F:Fx) (a:Int):Value:=if a<32768 then .pointer none else if a<49152 then pt F.ra ((a-32768)%128).toNat else if a<53248 then pt F.vi ((a-49152)%256).toNat else .pointer none
def Fx.memA (F:Fx) (M:Mach) (a:Int):Value:=if a<32768 then .pointer none else if a<49152 then pt F.ow ((a-32768)%64).toNat else if a<53248 then (if M.granted then pt F.ra ((a-49152)%128).toNat else .pointer none) else .pointer none
section
variable {F : Fx} {W : World} {M : Mach} {tk : Tk}
theorem Bd.ramV (h:Bd F W M tk):∃ cap,F.S.ra = .slice (some ⟨F.ra,0,none⟩) 128 cap/\W.cell? ⟨F.g,32,none⟩=some (.slice (some ⟨F.ra,0,none⟩) 128 cap)/\Bx W F.ra (bcs M.ram):=by
 obtain ⟨cap,h1,_,h3⟩:=h.ra.some (by rw [h.fit.ram];omega)
 rw [h.fit.ram] at h1
 exact ⟨cap,h1,by rw [<- h1];exact h.at 32 _ rfl,h3⟩
theorem Bd.ownV (h:Bd F W M tk):∃ cap,F.S.ow = .slice (some ⟨F.ow,0,none⟩) 64 cap/\W.cell? ⟨F.g,33,none⟩=some (.slice (some ⟨F.ow,0,none⟩) 64 cap)/\Bx W F.ow (bcs M.own):=by
 obtain ⟨cap,h1,_,h3⟩:=h.ow.some (by rw [h.fit.own];omega)
 rw [h.fit.own] at h1
 exact ⟨cap,h1,by rw [<- h1];exact h.at 33 _ rfl,h3⟩
theorem Bd.viV (h:Bd F W M tk):∃ cap,F.S.vi = .slice (some ⟨F.vi,0,none⟩) 256 cap/\W.cell? ⟨F.g,34,none⟩=some (.slice (some ⟨F.vi,0,none⟩) 256 cap)/\Bx W F.vi (bcs M.video):=by
 obtain ⟨cap,h1,_,h3⟩:=h.vi.some (by rw [h.fit.video];omega)
 rw [h.fit.video] at h1
 exact ⟨cap,h1,by rw [<- h1];exact h.at 34 _ rfl,h3⟩
theorem zgS (h:Bd F W M tk) (a:Int) (ha:0<=a/\a<=65535) :
 Calls Tryz.prog 87 #[pt F.g 0,.int .u16 a] W λe w'=>e = .returned (F.memM a)/\W=w':=by
 obtain ⟨c1,_,e1,_⟩:=h.ramV
 obtain ⟨c2,_,e2,_⟩:=h.viV
 have hg:=h.bx.z
 clear h
 unfold Fx.memM
 by_cases h1:a<32768
 ·rw [if_pos h1]
  have k1:¬ 32768<=a:=by omega
  have k2:¬ 49152<=a:=by omega
  go_enter Tryz.func87,Tryz.ntmps87
  go_wp2
  go_ret
  exact ⟨rfl,rfl⟩
 ·rw [if_neg h1]
  have k1:32768<=a:=by omega
  by_cases h2:a<49152
  ·rw [if_pos h2]
   go_enter Tryz.func87,Tryz.ntmps87
   go_wp2_with (go_at_call 161;refine (zbm F.ra 128 c1 (a-32768) _ (by omega) (by omega) (by omega)).mono ?_;rintro e w1 ⟨rfl,rfl⟩)
   go_ret
   exact ⟨rfl,rfl⟩
  ·rw [if_neg h2]
   have k2:49152<=a:=by omega
   by_cases h3:a<53248
   ·rw [if_pos h3]
    go_enter Tryz.func87,Tryz.ntmps87
    go_wp2_with (go_at_call 161;refine (zbm F.vi 256 c2 (a-49152) _ (by omega) (by omega) (by omega)).mono ?_;rintro e w1 ⟨rfl,rfl⟩)
    go_ret
    exact ⟨rfl,rfl⟩
   ·rw [if_neg h3]
    go_enter Tryz.func87,Tryz.ntmps87
    go_wp2
    go_ret
    exact ⟨rfl,rfl⟩
theorem zgT (h:Bd F W M tk) (a:Int) (ha:0<=a/\a<=65535) :
 Calls Tryz.prog 89 #[pt F.g 0,.int .u16 a] W λe w'=>e = .returned (F.memA M a)/\W=w':=by
 obtain ⟨c1,_,e1,_⟩:=h.ramV
 obtain ⟨c2,_,e2,_⟩:=h.ownV
 have hg:=h.bx.z
 have e3:=h.at 67 (.bool M.granted) rfl
 clear h
 unfold Fx.memA
 generalize M.granted=gr at *
 by_cases h1:a<32768
 ·rw [if_pos h1]
  have k1:¬ 32768<=a:=by omega
  have k2:¬ 49152<=a:=by omega
  go_enter Tryz.func89,Tryz.ntmps89
  go_wp2
  go_ret
  exact ⟨rfl,rfl⟩
 ·rw [if_neg h1]
  have k1:32768<=a:=by omega
  by_cases h2:a<49152
  ·rw [if_pos h2]
   go_enter Tryz.func89,Tryz.ntmps89
   go_wp2_with (go_at_call 161;refine (zbm F.ow 64 c2 (a-32768) _ (by omega) (by omega) (by omega)).mono ?_;rintro e w1 ⟨rfl,rfl⟩)
   go_ret
   exact ⟨rfl,rfl⟩
  ·rw [if_neg h2]
   have k2:49152<=a:=by omega
   by_cases h3:a<53248
   ·rw [if_pos h3]
    cases gr
    ·go_enter Tryz.func89,Tryz.ntmps89
     go_wp2
     go_ret
     exact ⟨rfl,rfl⟩
    ·go_enter Tryz.func89,Tryz.ntmps89
     go_wp2_with (go_at_call 161;refine (zbm F.ra 128 c1 (a-49152) _ (by omega) (by omega) (by omega)).mono ?_;rintro e w1 ⟨rfl,rfl⟩)
     go_ret
     exact ⟨rfl,rfl⟩
   ·rw [if_neg h3]
    go_enter Tryz.func89,Tryz.ntmps89
    go_wp2
    go_ret
    exact ⟨rfl,rfl⟩
end
section
variable {F : Fx} {W : World} {M : Mach} {tk : Tk}
theorem Bd.mrV (h:Bd F W M tk):∃ ad cap,F.S.mr = .slice ad M.mrom.length cap/\W.cell? ⟨F.g,30,none⟩=some (.slice ad M.mrom.length cap)/\(0<M.mrom.length->ad=some ⟨F.mr,0,none⟩/\Bx W F.mr (bcs M.mrom)):=by
 have hc:=h.at 30 F.S.mr rfl
 rcases h.mr with ⟨e,hl⟩|⟨cap,e,_,hb⟩
 ·exact ⟨none,0,by rw [e,hl];rfl,by rw [hc,e,hl];rfl,by rw [hl];simp⟩
 ·exact ⟨_,cap,e,by rw [hc,e],λ_=>⟨rfl,hb⟩⟩
theorem Bd.arV (h:Bd F W M tk):∃ ad cap,F.S.ar = .slice ad M.arom.length cap/\W.cell? ⟨F.g,31,none⟩=some (.slice ad M.arom.length cap)/\(0<M.arom.length->ad=some ⟨F.ar,0,none⟩/\Bx W F.ar (bcs M.arom)):=by
 have hc:=h.at 31 F.S.ar rfl
 rcases h.ar with ⟨e,hl⟩|⟨cap,e,_,hb⟩
 ·exact ⟨none,0,by rw [e,hl];rfl,by rw [hc,e,hl];rfl,by rw [hl];simp⟩
 ·exact ⟨_,cap,e,by rw [hc,e],λ_=>⟨rfl,hb⟩⟩
theorem Bd.ramAt (h:Bd F W M tk) (i:Int) (h0:0<=i) (hi:i<128):W.cell? ⟨F.ra,i.toNat,none⟩=some (.int .u8 (bget M.ram i))/\F.ra<W.heap.size/\W.frozen? ⟨F.ra,i.toNat,none⟩=false:=by
 obtain ⟨_,_,_,hb⟩:=h.ramV
 exact ⟨hb.at _ _ (zfF _ i h0 (by rw [h.fit.ram];exact hi)),hb.z,hb.f _⟩
theorem Bd.ownAt (h:Bd F W M tk) (i:Int) (h0:0<=i) (hi:i<64):W.cell? ⟨F.ow,i.toNat,none⟩=some (.int .u8 (bget M.own i))/\F.ow<W.heap.size/\W.frozen? ⟨F.ow,i.toNat,none⟩=false:=by
 obtain ⟨_,_,_,hb⟩:=h.ownV
 exact ⟨hb.at _ _ (zfF _ i h0 (by rw [h.fit.own];exact hi)),hb.z,hb.f _⟩
theorem Bd.viAt (h:Bd F W M tk) (i:Int) (h0:0<=i) (hi:i<256):W.cell? ⟨F.vi,i.toNat,none⟩=some (.int .u8 (bget M.video i))/\F.vi<W.heap.size/\W.frozen? ⟨F.vi,i.toNat,none⟩=false:=by
 obtain ⟨_,_,_,hb⟩:=h.viV
 exact ⟨hb.at _ _ (zfF _ i h0 (by rw [h.fit.video];exact hi)),hb.z,hb.f _⟩
theorem zdh (h:Bd F W M tk) (a:Int) (ha:0<=a/\a<=65535) :
 Calls Tryz.prog 184 #[pt F.g 77,.int .u16 a] W λe w'=>e = .returned (.int .u8 (M.lookM a))/\W=w':=by
 obtain ⟨ad,cap,_,e30,hr⟩:=h.mrV
 have hg:=h.bx.z
 have e76:=h.at 77 (pt F.g 30) rfl
 have e77:=h.at 78 (mval 87 F.g 0) rfl
 have hmr:=h.fit.mrom
 have hm:=hid (zgS h a ha)
 have H:=hid h
 clear h
 unfold Mach.lookM romAt
 unfold Fx.memM at hm
 by_cases h1:a<32768
 ·rw [if_pos h1]
  rw [if_pos h1] at hm
  by_cases h2:a<M.mrom.length
  ·rw [if_pos h2]
   obtain ⟨rfl,hb⟩:=hr (by omega)
   have ec:=hb.at _ _ (zfF _ a ha.1 h2)
   have ez:=hb.z
   clear hr
   go_enter Tryz.func184,Tryz.ntmps184
   go_wp2
   go_ret
   exact ⟨rfl,rfl⟩
  ·rw [if_neg h2]
   clear hr
   go_enter Tryz.func184,Tryz.ntmps184
   go_wp2_with (go_at_call 87;refine hm.out.mono ?_;rintro e w1 ⟨rfl,rfl⟩)
   go_ret
   exact ⟨rfl,rfl⟩
 ·rw [if_neg h1]
  rw [if_neg h1] at hm
  by_cases h2:a<49152
  ·rw [if_pos h2]
   rw [if_pos h2] at hm
   obtain ⟨ec,ez,_⟩:=H.out.ramAt ((a-32768)%128) (by omega) (by omega)
   clear hr
   go_enter Tryz.func184,Tryz.ntmps184
   go_wp2_with (go_at_call 87;refine hm.out.mono ?_;rintro e w1 ⟨rfl,rfl⟩)
   go_ret
   exact ⟨rfl,rfl⟩
  ·rw [if_neg h2]
   rw [if_neg h2] at hm
   by_cases h3:a<53248
   ·rw [if_pos h3]
    rw [if_pos h3] at hm
    obtain ⟨ec,ez,_⟩:=H.out.viAt ((a-49152)%256) (by omega) (by omega)
    clear hr
    go_enter Tryz.func184,Tryz.ntmps184
    go_wp2_with (go_at_call 87;refine hm.out.mono ?_;rintro e w1 ⟨rfl,rfl⟩)
    go_ret
    exact ⟨rfl,rfl⟩
   ·rw [if_neg h3]
    rw [if_neg h3] at hm
    clear hr
    go_enter Tryz.func184,Tryz.ntmps184
    go_wp2_with (go_at_call 87;refine hm.out.mono ?_;rintro e w1 ⟨rfl,rfl⟩)
    go_ret
    exact ⟨rfl,rfl⟩
end
section
variable {F : Fx} {W : World} {M : Mach} {tk : Tk}
theorem Bd.at2 (h:Bd F W M tk) (n:Nat) (v:Value) (e:F.sideA[n]? = some v):W.cell? ⟨F.g,143+n,none⟩=some v:=by
 have hs:F.sideM.length=66:=by unfold Fx.sideM;rw [List.length_append,zay];rfl
 exact h.at _ _ (zgh (machL M F.S) [.int .i64 tk.n,tk.v] [] F.sideA F.sideM 75 2 0 66 n v (zah M F.S) rfl hs rfl e)
theorem zfH (h:Bd F W M tk) (a:Int) (ha:0<=a/\a<=65535) :
 Calls Tryz.prog 184 #[pt F.g 143,.int .u16 a] W λe w'=>e = .returned (.int .u8 (M.lookA a))/\W=w':=by
 obtain ⟨ad,cap,_,e31,hr⟩:=h.arV
 have hg:=h.bx.z
 have e76:=h.at2 0 (pt F.g 31) rfl
 have e77:=h.at2 1 (mval 89 F.g 0) rfl
 have hmr:=h.fit.arom
 have hm:=hid (zgT h a ha)
 have H:=hid h
 clear h
 unfold Mach.lookA romAt
 unfold Fx.memA at hm
 by_cases h1:a<32768
 ·rw [if_pos h1]
  rw [if_pos h1] at hm
  by_cases h2:a<M.arom.length
  ·rw [if_pos h2]
   obtain ⟨rfl,hb⟩:=hr (by omega)
   have ec:=hb.at _ _ (zfF _ a ha.1 h2)
   have ez:=hb.z
   clear hr
   go_enter Tryz.func184,Tryz.ntmps184
   go_wp2
   go_ret
   exact ⟨rfl,rfl⟩
  ·rw [if_neg h2]
   clear hr
   go_enter Tryz.func184,Tryz.ntmps184
   go_wp2_with (go_at_call 89;refine hm.out.mono ?_;rintro e w1 ⟨rfl,rfl⟩)
   go_ret
   exact ⟨rfl,rfl⟩
 ·rw [if_neg h1]
  rw [if_neg h1] at hm
  by_cases h2:a<49152
  ·rw [if_pos h2]
   rw [if_pos h2] at hm
   obtain ⟨ec,ez,_⟩:=H.out.ownAt ((a-32768)%64) (by omega) (by omega)
   clear hr
   go_enter Tryz.func184,Tryz.ntmps184
   go_wp2_with (go_at_call 89;refine hm.out.mono ?_;rintro e w1 ⟨rfl,rfl⟩)
   go_ret
   exact ⟨rfl,rfl⟩
  ·rw [if_neg h2]
   rw [if_neg h2] at hm
   by_cases h3:a<53248
   ·rw [if_pos h3]
    rw [if_pos h3] at hm
    obtain ⟨ec,ez,_⟩:=H.out.ramAt ((a-49152)%128) (by omega) (by omega)
    clear hr
    cases hgr:M.granted
    ·rw [hgr] at hm
     go_enter Tryz.func184,Tryz.ntmps184
     go_wp2_with (go_at_call 89;refine hm.out.mono ?_;rintro e w1 ⟨rfl,rfl⟩)
     go_ret
     exact ⟨rfl,rfl⟩
    ·rw [hgr] at hm
     go_enter Tryz.func184,Tryz.ntmps184
     go_wp2_with (go_at_call 89;refine hm.out.mono ?_;rintro e w1 ⟨rfl,rfl⟩)
     go_ret
     exact ⟨rfl,rfl⟩
   ·rw [if_neg h3]
    rw [if_neg h3] at hm
    clear hr
    go_enter Tryz.func184,Tryz.ntmps184
    go_wp2_with (go_at_call 89;refine hm.out.mono ?_;rintro e w1 ⟨rfl,rfl⟩)
    go_ret
    exact ⟨rfl,rfl⟩
def GetM (F:Fx) (M:Mach) (tk:Tk) (i:Nat):Prop:=∀ W,Bd F W M tk->Calls Tryz.prog 183 #[.agg #[F.rdM i,F.wrM i]] W λe w'=>e = .returned (.int .u8 (M.portM i).1)/\Bd F w' (M.portM i).2 tk/\Bt F W w'
def GetA (F:Fx) (M:Mach) (tk:Tk) (i:Nat):Prop:=∀ W,Bd F W M tk->Calls Tryz.prog 183 #[.agg #[F.rdA i,F.wrA i]] W λe w'=>e = .returned (.int .u8 (M.portA i).1)/\Bd F w' (M.portA i).2 tk/\Bt F W w'
def PutM (F:Fx) (M:Mach) (tk:Tk) (i:Nat) (n:Int):Prop:=∀ W,Bd F W M tk->Calls Tryz.prog 185 #[.agg #[F.rdM i,F.wrM i],.int .u8 n] W λe w'=>e = .returned (.tuple #[])/\Bd F w' (M.putM i n) (tk.add (takes i n))/\Bt F W w'
def PutA (F:Fx) (M:Mach) (tk:Tk) (i:Nat) (n:Int):Prop:=∀ W,Bd F W M tk->Calls Tryz.prog 185 #[.agg #[F.rdA i,F.wrA i],.int .u8 n] W λe w'=>e = .returned (.tuple #[])/\(∃ v,Bd F w' (M.putA i n) (tk.app (shown M.clock i n) v))/\Bw F W w'
theorem Bd.pM (h:Bd F W M tk) (i:Nat) (hi:i<32):W.cell? ⟨F.g,79+i*2,none⟩=some (F.rdM i)/\W.cell? ⟨F.g,79+i*2+1,none⟩=some (F.wrM i):=by
 obtain ⟨h1,h2⟩:=F.portM M tk i hi
 rw [Nat.mul_comm i 2]
 exact ⟨h.at _ _ h1,h.at _ _ h2⟩
theorem Bd.pA (h:Bd F W M tk) (i:Nat) (hi:i<32):W.cell? ⟨F.g,145+i*2,none⟩=some (F.rdA i)/\W.cell? ⟨F.g,145+i*2+1,none⟩=some (F.wrA i):=by
 obtain ⟨h1,h2⟩:=F.portA M tk i hi
 rw [Nat.mul_comm i 2]
 exact ⟨h.at _ _ h1,h.at _ _ h2⟩
theorem zim (h:Bd F W M tk) (a:Int) (ha:0<=a/\a<=65535) (hp:∀ i,i<32->GetM F M tk i) :
 Calls Tryz.prog 92 #[pt F.g 77,.int .u16 a] W λe w'=>e = .returned (.int .u8 (M.rdM a).1)/\Bd F w' (M.rdM a).2 tk/\Bt F W w':=by
 unfold Mach.rdM
 cases hP:isPort a
 ·have hl:=hid (zdh h a ha)
  have hP':=hid hP
  have H:=hid h
  clear h hP hp
  go_enter Tryz.func92,Tryz.ntmps92
  go_wp2_with (first
   | (go_at_call 182;refine (zal a _ ha).mono ?_;rw [hP'.out];rintro e w1 ⟨rfl,rfl⟩)
   | (go_at_call 184;refine hl.out.mono ?_;rintro e w1 ⟨rfl,rfl⟩))
  go_ret
  exact ⟨rfl,H.out,Bt.refl _ _⟩
 ·obtain ⟨n,hn⟩:∃ n:Nat,a%32=n:=⟨(a%32).toNat,by omega⟩
  have hn2:n<32:=by omega
  have hm:Int.tmod a 32=n:=by rw [Int.tmod_eq_emod_of_nonneg ha.1,hn]
  have hq:=hid (hp n hn2 W h)
  have hP':=hid hP
  have e0:portNo a=n:=by unfold portNo;omega
  rw [e0]
  obtain ⟨c0,c1⟩:=h.pM n hn2
  have hg:=h.bx.z
  have hn3:(n:Int)<32:=by omega
  clear h hP hp e0
  generalize F.rdM n=vr at *
  generalize F.wrM n=vw at *
  go_enter Tryz.func92,Tryz.ntmps92
  go_wp2_with (first
   | (go_at_call 182;refine (zal a _ ha).mono ?_;rw [hP'.out];rintro e w1 ⟨rfl,rfl⟩)
   | (go_at_call 183;refine hq.out.mono ?_;rintro e w1 ⟨rfl,hB1,hB2⟩))
  go_ret
  exact ⟨rfl,hB1,hB2⟩
end
section
variable {F : Fx} {W : World} {M M' : Mach} {tk : Tk}
theorem Mach.fit.of {M M':Mach} (h:M.fit) (hok:M'.ok) (hl:M'.mrom=M.mrom/\M'.arom=M.arom/\M'.ram.length=M.ram.length/\M'.own.length=M.own.length/\M'.video.length=M.video.length) (hw:M'.s.w=M.s.w) (hb:M'.b.l=M.b.l/\M'.b.a=M.b.a/\M'.b.f=M.b.f) (hc:M'.clock=M.clock/\M'.mready=M.mready) (ha:M'.aready=M.aready \/ M'.aready=M.clock):M'.fit:=by
 obtain ⟨l1,l2,l3,l4,l5⟩:=hl
 obtain ⟨b1,b2,b3⟩:=hb
 obtain ⟨c1,c2⟩:=hc
 refine ⟨hok,?_,?_,?_,?_,?_,?_,?_,?_,?_,?_⟩
 ·rw [l1];exact h.mrom
 ·rw [l2];exact h.arom
 ·rw [l3];exact h.ram
 ·rw [l4];exact h.own
 ·rw [l5];exact h.video
 ·rw [hw];exact h.w
 ·rw [b1,b2,b3];exact h.b
 ·rw [c1];exact h.clock
 ·rw [c1,c2];exact h.mready
 ·rw [c1]
  have:=h.clock
  rcases ha with e|e
  ·rw [e];exact h.aready
  ·rw [e];omega
theorem zin {w b:Int} (hw:bd16 w) (hb:0<=b/\b<=255):bd16 (hiB w b):=by unfold bd16 hiB at *;omega
theorem zio {w b:Int} (hw:bd16 w) (hb:0<=b/\b<=255):bd16 (loB w b):=by unfold bd16 loB at *;omega
theorem zcj {W:World} {b o x i:Nat} {v u:Value} (hne:x≠b) (h:W.cell? ⟨x,i,none⟩=some u):(W.setCell ⟨b,o,none⟩ v).drew.cell? ⟨x,i,none⟩=some u:=(World.cell?_of_block (w:=W) (zae (o:=o) (v:=v) hne)).trans h
theorem zdi (h:Bd F W M tk) (x o:Nat) (cur n:Int) (hx:F.has x (pt F.g o)) (hc:(F.cells M tk)[o]? = some (.int .u16 cur)) (hcur:bd16 cur) (hn:0<=n/\n<=255) (ho:o<209)
 (hs:(F.cells M tk).set o (.int .u16 (hiB cur n))=F.cells M' tk) (hm:M'.mrom=M.mrom/\M'.arom=M.arom/\M'.ram=M.ram/\M'.own=M.own/\M'.video=M.video) (hf:M'.fit) :
 Calls Tryz.prog 218 #[.int .u8 n,pt x 0] W λe w'=>e = .returned (.tuple #[])/\Bd F w' M' tk/\Bt F W w':=by
 have c1:=h.at o _ hc
 have f1:=h.bx.f o
 have hg:=h.bx.z
 obtain ⟨z1,e1⟩:=h.env _ _ hx
 have hne:x≠F.g:=λe=>h.nd.env _ _ hx (Or.inl e)
 have H:=hid h
 have HS:=hid hs
 have HM:=hid hm
 clear h hs hm
 go_enter Tryz.func218,Tryz.ntmps218
 go_wp2_with (go_at_call 159;refine (zbk cur _ hcur).mono ?_;rintro e w1 ⟨rfl,rfl⟩)
 go_region_held3 (λw'=>w'.cell? ⟨x,0,none⟩=some (pt F.g o))
  ((first|(with_reducible exact zcj hne e1)|(go_keep;done)))
  ((go_at_call 181;refine (zbS n (cur%256) _ hn (by omega)).mono ?_;rintro e w1 ⟨rfl,rfl⟩))
 go_wp2
 go_end0
 exact ⟨rfl,(H.out.put o _ ho HS.out HM.out hf).drew,((Bt.refl _ _).set H.out.nd _ _).drew⟩
theorem ze3 (h:Bd F W M tk) (x o:Nat) (cur n:Int) (hx:F.has x (pt F.g o)) (hc:(F.cells M tk)[o]? = some (.int .u16 cur)) (hcur:bd16 cur) (hn:0<=n/\n<=255) (ho:o<209)
 (hs:(F.cells M tk).set o (.int .u16 (loB cur n))=F.cells M' tk) (hm:M'.mrom=M.mrom/\M'.arom=M.arom/\M'.ram=M.ram/\M'.own=M.own/\M'.video=M.video) (hf:M'.fit) :
 Calls Tryz.prog 219 #[.int .u8 n,pt x 0] W λe w'=>e = .returned (.tuple #[])/\Bd F w' M' tk/\Bt F W w':=by
 have c1:=h.at o _ hc
 have f1:=h.bx.f o
 have hg:=h.bx.z
 obtain ⟨z1,e1⟩:=h.env _ _ hx
 have hne:x≠F.g:=λe=>h.nd.env _ _ hx (Or.inl e)
 have H:=hid h
 have HS:=hid hs
 have HM:=hid hm
 clear h hs hm
 go_enter Tryz.func219,Tryz.ntmps219
 go_wp2_with (go_at_call 159;refine (zbk cur _ hcur).mono ?_;rintro e w1 ⟨rfl,rfl⟩)
 go_region_held3 (λw'=>w'.cell? ⟨x,0,none⟩=some (pt F.g o))
  ((first|(with_reducible exact zcj hne e1)|(go_keep;done)))
  ((go_at_call 181;refine (zbS (cur/256) n _ (by unfold bd16 at hcur;omega) hn).mono ?_;rintro e w1 ⟨rfl,rfl⟩))
 go_wp2
 go_end0
 exact ⟨rfl,(H.out.put o _ ho HS.out HM.out hf).drew,((Bt.refl _ _).set H.out.nd _ _).drew⟩
theorem zip (h:Bd F W M tk) (n:Int):Calls Tryz.prog 171 #[pt F.g 0,.int .u8 n] W λe w'=>e = .returned (.tuple #[])/\Bd F w' (M.putM 8 n) tk/\Bt F W w':=by
 have c2:=h.at 63 (.bool M.b.g) rfl
 have c3:=h.bx.f 63
 have hg:=h.bx.z
 have H:=hid h
 clear h
 go_enter Tryz.func171,Tryz.ntmps171
 go_wp2
 go_end0
 exact ⟨rfl,H.out.put 63 _ (by omega) rfl ⟨rfl,rfl,rfl,rfl,rfl⟩ { H.out.fit with main:=H.out.fit.main },(Bt.refl _ _).set H.out.nd _ _⟩
theorem ziq (h:Bd F W M tk) (n:Int) (hn:0<=n/\n<=255):Calls Tryz.prog 176 #[pt F.g 0,.int .u8 n] W λe w'=>e = .returned (.tuple #[])/\Bd F w' (M.putM 17 n) tk/\Bt F W w':=by
 have c2:=h.at 71 (.bool M.rung) rfl
 have c3:=h.bx.f 71
 have c4:=h.at 69 (.int .u8 M.m0) rfl
 have c5:=h.bx.f 69
 have hg:=h.bx.z
 have H:=hid h
 clear h
 go_enter Tryz.func176,Tryz.ntmps176
 go_wp2
 go_end0
 have hq:Mach.fit { M with m0:=n }:={ H.out.fit with main:=H.out.fit.main,m0:=hn }
 exact ⟨rfl,(H.out.put (M':={ M with m0:=n }) (tk':=tk) 69 _ (by omega) rfl ⟨rfl,rfl,rfl,rfl,rfl⟩ hq).put 71 _ (by omega) rfl ⟨rfl,rfl,rfl,rfl,rfl⟩ { hq with main:=hq.main },((Bt.refl _ _).set H.out.nd _ _).set H.out.nd _ _⟩
theorem zir (h:Bd F W M tk) (n:Int) (hn:0<=n/\n<=255):Calls Tryz.prog 178 #[.int .u8 n,pt F.E.ab 0] W λe w'=>e = .returned (.tuple #[])/\Bd F w' { M with m1:=n } tk/\Bt F W w':=by
 have c2:=h.at 70 (.int .u8 M.m1) rfl
 have c3:=h.bx.f 70
 have hg:=h.bx.z
 obtain ⟨z1,e1⟩:=h.env _ _ .ab
 have H:=hid h
 clear h
 go_enter Tryz.func178,Tryz.ntmps178
 go_wp2
 go_end0
 exact ⟨rfl,H.out.put 70 _ (by omega) rfl ⟨rfl,rfl,rfl,rfl,rfl⟩ { H.out.fit with main:=H.out.fit.main,m1:=hn },(Bt.refl _ _).set H.out.nd _ _⟩
end
section
variable {F : Fx} {W : World} {M M' : Mach} {tk : Tk}
theorem zis (n:Nat) (a b:Array Value) (w:World):(binOp .eql 119 (.func (.func n) a b) .nilFunc).run Tryz.prog w = .ok (.bool false) w:=by kernel_rfl
abbrev reachV (g o:Nat):Value:=.agg #[mval 92 g o,mval 93 g o]
theorem zdj (g:Nat) (w:World):Calls Tryz.prog 53 #[pt g 0] w λe w'=>e = .returned (reachV g 77)/\Below w.heap.size w w':=by
 go_enter Tryz.func53,Tryz.ntmps53
 go_wp2
 go_region_with fail
 all_goals go_wp2
 all_goals
  refine bodyPost_ret (v:=.agg _) (by simp [results,Tryz.results53,go_sem]) rfl ⟨rfl,?_⟩
  exact (stA (st0 _) _).drew
theorem zek (g:Nat) (w:World):Calls Tryz.prog 113 #[pt g 0] w λe w'=>e = .returned (reachV g 143)/\Below w.heap.size w w':=by
 go_enter Tryz.func113,Tryz.ntmps113
 go_wp2
 go_region_with fail
 all_goals go_wp2
 all_goals
  refine bodyPost_ret (v:=.agg _) (by simp [results,Tryz.results113,go_sem]) rfl ⟨rfl,?_⟩
  exact (stA (st0 _) _).drew
def ReadsAt (F:Fx) (M:Mach) (tk:Tk) (o:Nat) (a x:Int):Prop:=∀ W,Bd F W M tk->Calls Tryz.prog 92 #[pt F.g o,.int .u16 a] W λe w'=>e = .returned (.int .u8 x)/\Bd F w' M tk/\Bt F W w'
theorem Bu.byte_at (h:Bd F W M tk) (o:Nat) (a x:Int) (hr:ReadsAt F M tk o a x):Calls Tryz.prog 180 #[reachV F.g o,.int .u16 a] W λe w'=>e = .returned (.int .u8 x)/\Bd F w' M tk/\Bt F W w':=by
 have hn:=zis 92 #[pt F.g o] #[]
 have H:=hid h
 clear h
 go_enter Tryz.func180,Tryz.ntmps180
 go_wp2_with (go_at_call 92;refine (hr _ (H.out.over _)).mono ?_;rintro e w1 ⟨rfl,hB1,hT1⟩)
 go_ret
 exact ⟨rfl,hB1,Mv.trans (Mv.of_below H.out.big (stA (st0 _) _)) hT1⟩
end
section
variable {F : Fx} {W : World} {M : Mach} {tk : Tk}
theorem zit (h:Bd F W M tk) (a:Int) (ha:0<=a/\a<=65535) (hp:∀ i,i<32->GetA F M tk i) :
 Calls Tryz.prog 92 #[pt F.g 143,.int .u16 a] W λe w'=>e = .returned (.int .u8 (M.rdA a).1)/\Bd F w' (M.rdA a).2 tk/\Bt F W w':=by
 unfold Mach.rdA
 cases hP:isPort a
 ·have hl:=hid (zfH h a ha)
  have hP':=hid hP
  have H:=hid h
  clear h hP hp
  go_enter Tryz.func92,Tryz.ntmps92
  go_wp2_with (first
   | (go_at_call 182;refine (zal a _ ha).mono ?_;rw [hP'.out];rintro e w1 ⟨rfl,rfl⟩)
   | (go_at_call 184;refine hl.out.mono ?_;rintro e w1 ⟨rfl,rfl⟩))
  go_ret
  exact ⟨rfl,H.out,Bt.refl _ _⟩
 ·obtain ⟨n,hn⟩:∃ n:Nat,a%32=n:=⟨(a%32).toNat,by omega⟩
  have hn2:n<32:=by omega
  have hm:Int.tmod a 32=n:=by rw [Int.tmod_eq_emod_of_nonneg ha.1,hn]
  have hq:=hid (hp n hn2 W h)
  have hP':=hid hP
  have e0:portNo a=n:=by unfold portNo;omega
  rw [e0]
  obtain ⟨c0,c1⟩:=h.pA n hn2
  have hg:=h.bx.z
  have hn3:(n:Int)<32:=by omega
  clear h hP hp e0
  generalize F.rdA n=vr at *
  generalize F.wrA n=vw at *
  go_enter Tryz.func92,Tryz.ntmps92
  go_wp2_with (first
   | (go_at_call 182;refine (zal a _ ha).mono ?_;rw [hP'.out];rintro e w1 ⟨rfl,rfl⟩)
   | (go_at_call 183;refine hq.out.mono ?_;rintro e w1 ⟨rfl,hB1,hB2⟩))
  go_ret
  exact ⟨rfl,hB1,hB2⟩
theorem zhk (h:Bd F W M tk) (a n:Int) (ha:0<=a/\a<=65535) (hn:0<=n/\n<=255) (hp:∀ i,i<32->PutM F M tk i n) :
 Calls Tryz.prog 93 #[pt F.g 77,.int .u16 a,.int .u8 n] W λe w'=>e = .returned (.tuple #[])/\Bd F w' (M.wrM a n) (tk.add (tookM a n))/\Bt F W w':=by
 unfold Mach.wrM tookM
 cases hP:isPort a
 ·have hm:=hid (zgS h a ha)
  have e77:=h.at 78 (mval 87 F.g 0) rfl
  have hP':=hid hP
  have H:=hid h
  have hg:=h.bx.z
  clear h hP hp
  simp only [Bool.false_eq_true,if_false,Tk.add_zero]
  unfold Mach.memM
  unfold Fx.memM at hm
  by_cases h1:a<32768
  ·rw [if_pos h1]
   rw [if_pos h1] at hm
   go_enter Tryz.func93,Tryz.ntmps93
   go_wp2_with (first
    | (go_at_call 182;refine (zal a _ ha).mono ?_;rw [hP'.out];rintro e w1 ⟨rfl,rfl⟩)
    | (go_at_call 87;refine hm.out.mono ?_;rintro e w1 ⟨rfl,rfl⟩))
   go_end0
   exact ⟨rfl,H.out,Bt.refl _ _⟩
  ·rw [if_neg h1]
   rw [if_neg h1] at hm
   by_cases h2:a<49152
   ·rw [if_pos h2]
    rw [if_pos h2] at hm
    obtain ⟨ec,ez,ef⟩:=H.out.ramAt ((a-32768)%128) (by omega) (by omega)
    go_enter Tryz.func93,Tryz.ntmps93
    go_wp2_with (first
     | (go_at_call 182;refine (zal a _ ha).mono ?_;rw [hP'.out];rintro e w1 ⟨rfl,rfl⟩)
     | (go_at_call 87;refine hm.out.mono ?_;rintro e w1 ⟨rfl,rfl⟩))
    go_end0
    exact ⟨rfl,H.out.putRam _ n (by omega) (by omega) hn,(Bt.refl _ _).setR H.out.nd _ _⟩
   ·rw [if_neg h2]
    rw [if_neg h2] at hm
    by_cases h3:a<53248
    ·rw [if_pos h3]
     rw [if_pos h3] at hm
     obtain ⟨ec,ez,ef⟩:=H.out.viAt ((a-49152)%256) (by omega) (by omega)
     go_enter Tryz.func93,Tryz.ntmps93
     go_wp2_with (first
      | (go_at_call 182;refine (zal a _ ha).mono ?_;rw [hP'.out];rintro e w1 ⟨rfl,rfl⟩)
      | (go_at_call 87;refine hm.out.mono ?_;rintro e w1 ⟨rfl,rfl⟩))
     go_end0
     exact ⟨rfl,H.out.putVideo _ n (by omega) (by omega) hn,(Bt.refl _ _).setV H.out.nd _ _⟩
    ·rw [if_neg h3]
     rw [if_neg h3] at hm
     go_enter Tryz.func93,Tryz.ntmps93
     go_wp2_with (first
      | (go_at_call 182;refine (zal a _ ha).mono ?_;rw [hP'.out];rintro e w1 ⟨rfl,rfl⟩)
      | (go_at_call 87;refine hm.out.mono ?_;rintro e w1 ⟨rfl,rfl⟩))
     go_end0
     exact ⟨rfl,H.out,Bt.refl _ _⟩
 ·obtain ⟨k,hk⟩:∃ k:Nat,a%32=k:=⟨(a%32).toNat,by omega⟩
  have hk2:k<32:=by omega
  have hm:Int.tmod a 32=k:=by rw [Int.tmod_eq_emod_of_nonneg ha.1,hk]
  have hq:=hid (hp k hk2 W h)
  have hP':=hid hP
  have e0:portNo a=k:=by unfold portNo;omega
  simp only [if_true]
  rw [e0]
  obtain ⟨c0,c1⟩:=h.pM k hk2
  have hg:=h.bx.z
  have hk3:(k:Int)<32:=by omega
  clear h hP hp e0
  generalize F.rdM k=vr at *
  generalize F.wrM k=vw at *
  go_enter Tryz.func93,Tryz.ntmps93
  go_wp2_with (first
   | (go_at_call 182;refine (zal a _ ha).mono ?_;rw [hP'.out];rintro e w1 ⟨rfl,rfl⟩)
   | (go_at_call 185;refine hq.out.mono ?_;rintro e w1 ⟨rfl,hB1,hB2⟩))
  go_end0
  exact ⟨rfl,hB1,hB2⟩
end
section
variable {F : Fx} {W : World} {M M' : Mach} {tk : Tk}
theorem Bd.fresh (h:Bd F W M tk) (ht:F.T W.heap.size):False:=by
 have h1:=h.bx.z
 obtain ⟨_,_,_,h2⟩:=h.ramV
 obtain ⟨_,_,_,h3⟩:=h.ownV
 obtain ⟨_,_,_,h4⟩:=h.viV
 have h2:=h2.z
 have h3:=h3.z
 have h4:=h4.z
 rcases ht with e|e|e|e <;> omega
theorem zhl (h:Bd F W M tk) (o:Nat) (x0 x1:Int) (h0:ReadsAt F M tk o 0 x0) (h1:ReadsAt F M tk o 1 x1) (b0:0<=x0/\x0<=255) (b1:0<=x1/\x1<=255) :
 Calls Tryz.prog 91 #[reachV F.g o,.int .u16 0] W λe w'=>e = .returned (.int .u16 (x0*256+x1))/\Bd F w' M tk/\Bt F W w':=by
 have H:=hid h
 have hB:=h.big
 clear h
 go_enter Tryz.func91,Tryz.ntmps91
 go_wp2_with (first
  | (go_at_call 181;refine (zbS x0 x1 _ b0 b1).mono ?_;rintro e w3 ⟨rfl,rfl⟩)
  | (go_at_call 180;refine (Bu.byte_at HB1.out o 1 x1 h1).mono ?_;rintro e w2 ⟨rfl,hB2,hT2⟩)
  | (go_at_call 180;refine (Bu.byte_at (H.out.over _) o 0 x0 h0).mono ?_;rintro e w1 ⟨rfl,hB1,hT1⟩;have HB1:=hid hB1;have hc:=λi=>hT1.cell (k:=W.heap.size) (by simp) (λht=>H.out.fresh ht) i;have z1:W.heap.size<w1.heap.size:=Nat.lt_of_lt_of_le (by simp) hT1.size))
 go_ret
 exact ⟨rfl,hB2,Mv.trans (Mv.trans (Mv.of_below hB (stA (st0 _) _)) hT1) hT2⟩
end
section
variable {F : Fx} {W : World} {M M' : Mach} {tk : Tk}
def begL (x:Int):List Value:=[.int .u16 0,.int .u16 0,.int .u16 0,.int .u16 0,.int .u16 0,.int .u16 0,.int .u16 0,.int .u16 0,.int .u16 x,.bool false,.bool false,.bool false,.bool false,.bool false,.bool false]
theorem ziu (hi lo:Int):begL (hi*256+lo)=cpuL (beginC hi lo):=rfl
theorem zbB:(Tryz.prog.info? 25).map (·.size)=some 15:=by kernel_rfl
theorem ziv (x:Int):(#[.int .u16 0,.int .u16 0,.int .u16 0,.int .u16 0,.int .u16 0,.int .u16 0,.int .u16 0,.int .u16 0,.int .u16 x,.bool false,.bool false,.bool false,.bool false,.bool false,.bool false]:Array Value).all (·.oneCell')=true:=by simp [Value.oneCell']
theorem zkN {Y:World} {b:Nat} {x:Int} (h:Bx Y b (begL x)):(loadVar 25 ⟨b,0,none⟩).run Tryz.prog Y = .ok (.agg (begL x).toArray) Y :=
 run_loadVar_mid Y b 0 25 _ _ h.c Tryz.underlying25 rfl zbB
theorem Rw.off {v:Value} {k:Nat} {l0 l:List UInt8} {w1:World} {b:Nat} (h0:Rw W v k l0) (h:Rw w1 v k l) (hb:W.heap.size<=b) (o:Nat) (vs:List Value):Rw (w1.setCells b o vs) v k l:=by
 rcases h with h|⟨cap,e,hl,hx⟩
 ·exact Or.inl h
 ·rcases h0 with ⟨e0,_⟩|⟨cap0,e0,_,hx0⟩
  ·rw [e0] at e;cases e
  ·exact Or.inr ⟨cap,e,hl,hx.fars (by have:=hx0.z;omega) o vs⟩
theorem Bd.off {M0:Mach} {w1:World} {b:Nat} (h0:Bd F W M0 tk) (h:Bd F w1 M tk) (hb:W.heap.size<=b) (o:Nat) (vs:List Value):Bd F (w1.setCells b o vs) M tk:=by
 refine ⟨h.bx.fars (by have:=h0.bx.z;omega) o vs,h0.mr.off h.mr hb o vs,h0.ar.off h.ar hb o vs,h0.ra.off h.ra hb o vs,h0.ow.off h.ow hb o vs,h0.vi.off h.vi hb o vs,λx u hx=>?_,h.nd,h.fit,by rw [zaT];exact h.big,zaA h.ws (λk hk=>zag (by have:=(h0.ws.lt k hk).2;omega) _ _ _),h.wd⟩
 have hn:x≠b:=by have:=(h0.env x u hx).1;omega
 obtain ⟨e1,e2⟩:=h.env x u hx
 exact ⟨by rw [zaT];exact e1,(World.cell?_of_block (w:=w1) (zag hn _ _ _)).trans e2⟩
theorem Bt.off {b:Nat} (hB:F.B<=W.heap.size) (hb:W.heap.size<=b):∀ (vs:List Value) (o:Nat) (w1:World),Bt F W w1->Bt F W (w1.setCells b o vs)
 | [],o,w1,h=>h
 | v::vs,o,w1,h=>Bt.off hB hb vs (o+1) _ (Mv.setCell h (Nat.le_trans hB hb) (Or.inr hb) v)
theorem Bt.below (h:Bd F W M tk) {w0:World} (hb:Below W.heap.size W w0):Bt F W w0:=Mv.of_below h.big hb
theorem zcT (h:Bd F W M tk) (o:Nat) (x0 x1:Int) (h0:ReadsAt F M tk o 0 x0) (h1:ReadsAt F M tk o 1 x1) (b0:0<=x0/\x0<=255) (b1:0<=x1/\x1<=255) :
 Calls Tryz.prog 52 #[reachV F.g o] W λe w'=>e = .returned (.agg (begL (x0*256+x1)).toArray)/\Bd F w' M tk/\Bt F W w':=by
 have H:=hid h
 have hB:=h.big
 clear h
 go_enter Tryz.func52,Tryz.ntmps52
 go_wp2_with (first
  | (go_at_call 91;refine (zhl ((H.out.over _).over _) o x0 x1 h0 h1 b0 b1).mono ?_;rintro e w1 ⟨rfl,hB1,hT1⟩;have HX:=hid (Bx.same (Bx.new _ (begL 0) _ (by simp)) hT1.size (hT1.block (W.heap.size+1) (by simp) (λht=>(H.out.over (.cells #[mval 92 F.g o,mval 93 F.g o] 122)).fresh (by simpa using ht))));have HB1:=hid hB1;have HT1:=hid hT1;clear hB1 hT1)
  | (refine wpList_store_mid rfl 25 _ _ rfl (W.heap.size+1) 0 _ rfl rfl (Bx.there HX.out 0 15 (by simp [begL])) zbB (ziv _) ?_
     refine Pl.cutL (λY=>Bd F Y M tk/\Bt F W Y/\Bx Y (W.heap.size+1) (begL (x0*256+x1))) ⟨?_,?_,?_⟩ ?_
     ·exact Bd.off H.out HB1.out (Nat.le_succ _) 0 _
     ·exact Bt.off hB (Nat.le_succ _) _ 0 _ (Mv.trans (Bt.below H.out (stA (stA (st0 _) _) _)) HT1.out)
     ·exact HX.out.puts 0 (begL (x0*256+x1)) (by simp [begL])
     rintro Y ⟨hY1,hY2,hY3⟩
     have HY1:=hid hY1
     have HY2:=hid hY2
     have HY3:=hid hY3
     clear hY1 hY2 hY3))
 exact bodyPost_ret (v:=.agg _) (by simp only [results,Tryz.results52];simp;exact Pl.res (zkN HY3.out)) rfl ⟨rfl,HY1.out,HY2.out⟩
end
theorem zbg (C:List Value):∀ (B' B A:List Value),B'.length=B.length->putL (A++(B++C)) A.length B'=A++(B'++C)
 | [],[],A,_=>rfl
 | v::vs,b::bs,A,h=>by
  have e:(A++(b::bs++C)).set A.length v=(A++[v])++(bs++C):=by simp
  have ih:=zbg C vs bs (A++[v]) (by simpa using h)
  simp only [List.length_append,List.length_cons,List.length_nil,Nat.zero_add] at ih
  show putL ((A++(b::bs++C)).set A.length v) (A.length+1) vs=_
  rw [e,ih]
  simp
def rest1 (M:Mach):List Value:=[.int .u8 M.p0.d,.bool M.p0.l,.int .u8 M.p0.s,.int .u8 M.p1.d,.bool M.p1.l,.int .u8 M.p1.s,.int .u16 M.t.r,.int .u16 M.t.c,.bool M.t.on,.bool M.t.g]
def rest2 (M:Mach):List Value:=[.int .i64 M.b.l,.int .i64 M.b.a,.bool M.b.g,.int .i64 M.b.f,.int .u16 M.fr,.int .u16 M.to,.bool M.granted,.bool M.held,.int .u8 M.m0,.int .u8 M.m1,.bool M.rung,.int .i64 M.clock,.int .i64 M.mready,.int .i64 M.aready]
def sndL (s:Sd):List Value:=[.int .u16 s.a.p,.int .u16 s.a.c,.int .u8 s.a.l,.bool s.a.h,.int .u16 s.a.n,.int .u16 s.b.p,.int .u16 s.b.c,.int .u8 s.b.l,.bool s.b.h,.int .u16 s.b.n,.int .u16 s.c.p,.int .u16 s.c.c,.int .u8 s.c.l,.bool s.c.h,.int .u16 s.c.n,.int .i64 s.w]
theorem zkO (M:Mach):restL M=rest1 M++(sndL M.s++rest2 M):=rfl
theorem Fx.putMain (F:Fx) (M:Mach) (tk:Tk) (c:C.Cpu):putL (F.cells M tk) 0 (cpuL c)=F.cells { M with main:=c } tk:=by
 unfold Fx.cells machL
 rw [List.append_assoc]
 exact zbg _ (cpuL c) (cpuL M.main) [] rfl
theorem Fx.putAux (F:Fx) (M:Mach) (tk:Tk) (c:C.Cpu):putL (F.cells M tk) 15 (cpuL c)=F.cells { M with aux:=c } tk:=by
 unfold Fx.cells machL
 simp only [List.append_assoc]
 exact zbg _ (cpuL c) (cpuL M.aux) (cpuL M.main) rfl
theorem Fx.putSnd (F:Fx) (M:Mach) (tk:Tk) (s:Sd):putL (F.cells M tk) 45 (sndL s)=F.cells { M with s:=s } tk:=by
 have e:∀ M:Mach,F.cells M tk=(cpuL M.main++(cpuL M.aux++(slL F.S++rest1 M)))++(sndL M.s++(rest2 M++([.int .i64 tk.n,tk.v]++(F.sideM++F.sideA)))):=by
  intro M
  unfold Fx.cells machL
  rw [zkO]
  simp only [List.append_assoc]
 rw [e M,e]
 exact zbg _ (sndL s) (sndL M.s) (cpuL M.main++(cpuL M.aux++(slL F.S++rest1 M))) rfl
theorem zhm {w:World} {g B:Nat} (hg:w.heap[g]? = some (.cells #[] 5 (0,0))) (hB:B<=g):w.ownsRow B 5 1 (.slice (some ⟨g,0,none⟩) 0 0) ([]:List UInt8).length (bcs []) :=
 ⟨rfl,Or.inr ⟨g,0,#[],rfl,hB,hg,Nat.le_refl _,by decide,by simp,by simp [bcs]⟩⟩
theorem zfI {w:World} {B:Nat} {v:Value} {l:List UInt8} (h:w.ownsRow B 5 1 v l.length (bcs l)):(v = .slice none 0 0/\l=[]) \/ ∃ k cap,v = .slice (some ⟨k,0,none⟩) l.length cap/\l.length<=cap/\B<=k/\Bx w k (bcs l):=by
 rcases h.2 with ⟨rfl,h0⟩|⟨g,cap,cur,rfl,hb,hg,hn,hm,hs,ht⟩
 ·exact Or.inl ⟨rfl,List.length_eq_zero_iff.1 h0⟩
 ·refine Or.inr ⟨g,cap,rfl,hn,hb,(Array.getElem?_eq_some_iff.1 hg).1,λj c hj=>?_,λo=>Lib.frozen_of_heap hg o⟩
  have hjl:=(List.getElem?_eq_some_iff.1 hj).1
  rw [zif] at hjl
  rw [Nat.zero_add,Lib.cell_of_heap hg j]
  have e:cur[j]? = (cur.toList.take (l.length*1))[j]?:=by rw [List.getElem?_take,if_pos (by omega)];simp
  rw [e,ht,hj]
theorem zmU (n c:Nat) (w:World):(binOp .eql 26 (.slice none n c) (.slice none 0 0)).run Tryz.prog w = .ok (.bool true) w:=by kernel_rfl
theorem zol (a:Addr) (n c:Nat) (w:World):(binOp .eql 26 (.slice (some a) n c) (.slice none 0 0)).run Tryz.prog w = .ok (.bool false) w:=by kernel_rfl
theorem zcU (v:Value) (l:List UInt8) (w:World) (h:sliceAt w v l) (hl:l.length<=100000) :
 Calls Tryz.prog 160 #[v] w λe w'=>∃ v',e = .returned v'/\w'.ownsRow w.heap.size 5 1 v' l.length (bcs l)/\Below w.heap.size w w':=by
 obtain ⟨a,c,rfl⟩:=zaF h
 cases a with
 | none =>
  have h0:l=[]:=by
   rcases h with ⟨_,_,_,h2⟩|⟨g,o,cap,h1,_⟩
   ·exact h2
   ·cases h1
  subst h0
  have hn:=zmU 0 c
  go_enter Tryz.func160,Tryz.ntmps160
  go_wp2
  go_ret
  exact ⟨_,rfl,⟨rfl,Or.inl ⟨rfl,rfl⟩⟩,st0 _⟩
 | some a =>
  have hn:=zol a l.length c
  have H:=hid h
  clear h
  go_enter Tryz.func160,Tryz.ntmps160
  go_wp2_with (at_builtin;refine zc9 (by rfl) _ _ (by rfl) w.heap.size _ ([]:List UInt8) (by rfl) (zhm (heap_alloc_new w _) (Nat.le_refl _)) _ (by rfl) l (H.out.kept (stA (st0 w) _)) (by simp;exact hl) (by simp) ?_;intro v' w' hown' hb')
  go_ret
  exact ⟨_,rfl,by simpa using hown',(stA (st0 w) _).trans hb'⟩
def Sl.get (S:Sl) (j:Nat):Value:=match j with|0=>S.mr|1=>S.ar|2=>S.ra|3=>S.ow|_=>S.vi
def Sl.set (S:Sl) (j:Nat) (v:Value):Sl:=match j with|0=>{ S with mr:=v }|1=>{ S with ar:=v }|2=>{ S with ra:=v }|3=>{ S with ow:=v }|_=>{ S with vi:=v }
def Mach.byt (M:Mach) (j:Nat):List UInt8:=match j with|0=>M.mrom|1=>M.arom|2=>M.ram|3=>M.own|_=>M.video
theorem five {j:Nat} (h:j<5):j=0 \/ j=1 \/ j=2 \/ j=3 \/ j=4:=by omega
theorem Sl.get_set (S:Sl) (i j:Nat) (v:Value) (hi:i<5) (hj:j<5):(S.set i v).get j=if j=i then v else S.get j:=by
 rcases five hi with rfl|rfl|rfl|rfl|rfl <;> rcases five hj with rfl|rfl|rfl|rfl|rfl <;> rfl
theorem ze4 (M:Mach) (S:Sl) (j:Nat) (hj:j<5):(machL M S)[30+j]? = some (S.get j):=by
 rcases five hj with rfl|rfl|rfl|rfl|rfl <;> rfl
theorem ziw (M:Mach) (S:Sl) (j:Nat) (v:Value) (hj:j<5):(machL M S).set (30+j) v=machL M (S.set j v):=by
 rcases five hj with rfl|rfl|rfl|rfl|rfl <;> rfl
theorem zad:(Tryz.prog.info? 41).map (·.size)=some 75:=by kernel_rfl
theorem zck {Y:World} {b o:Nat} (M:Mach) (S:Sl) (h:Y.rangeAt b o (machL M S)):(loadVar 41 ⟨b,o,none⟩).run Tryz.prog Y = .ok (.agg (machL M S).toArray) Y :=
 run_loadVar_mid Y b o 41 _ _ h Tryz.underlying41 rfl zad
def Sl.isSl (S:Sl):Prop:=∀ j,j<5->∃ a n c,S.get j = .slice a n c
theorem zaC (M:Mach) (S:Sl) (h:S.isSl):(machL M S).toArray.all (·.oneCell')=true:=by
 obtain ⟨a0,n0,c0,e0⟩:=h 0 (by omega)
 obtain ⟨a1,n1,c1,e1⟩:=h 1 (by omega)
 obtain ⟨a2,n2,c2,e2⟩:=h 2 (by omega)
 obtain ⟨a3,n3,c3,e3⟩:=h 3 (by omega)
 obtain ⟨a4,n4,c4,e4⟩:=h 4 (by omega)
 simp only [Sl.get] at e0 e1 e2 e3 e4
 unfold machL cpuL slL restL
 rw [e0,e1,e2,e3,e4]
 simp [Value.oneCell']
end Go.Proofs.YtbennamieealbaaGreatDoor
