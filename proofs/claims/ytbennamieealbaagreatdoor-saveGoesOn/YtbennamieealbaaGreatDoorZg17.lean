/-
  Parts of a proof, joined.
-/
import Derived.Test.YtbennamieealbaaGreatDoorZg14
import Derived.Test.YtbennamieealbaaGreatDoorZg01
import Derived.Test.YtbennamieealbaaGreatDoorZg16
import Derived.Test.YtbennamieealbaaGreatDoorZg12
import Derived.Deep.RegionHeld3
set_option linter.unusedVariables false
set_option maxRecDepth 100000
set_option maxHeartbeats 3200000
namespace Go.Proofs.YtbennamieealbaaGreatDoor
open Go.ChangeShapes Go.WideShapes Go.ChangeAt Go.RowKit
theorem zaE (a1 a2:Option Addr) (n1 c1 n2 c2:Nat) (w:World) (h1:n1<=9223372036854775807) (h2:n2<=9223372036854775807) :
 Calls Tryz.prog 26 #[.slice a1 n1 c1,.slice a2 n2 c2] w λe w'=>e = .returned (.int .i64 (if n1<=1024/\n2<=1024 then 0 else 2))/\w=w':=by
 by_cases h:n1<=1024
 ·have h':¬ (1024:Int)<n1:=by omega
  by_cases k:n2<=1024
  ·have k':¬ (1024:Int)<n2:=by omega
   rw [if_pos ⟨h,k⟩]
   clear h k
   go_enter Tryz.func26,Tryz.ntmps26
   go_wp2
   go_ret
   exact ⟨rfl,rfl⟩
  ·have k':(1024:Int)<n2:=by omega
   rw [if_neg (λx=>k x.2)]
   clear h k
   go_enter Tryz.func26,Tryz.ntmps26
   go_wp2
   go_ret
   exact ⟨rfl,rfl⟩
 ·have h':(1024:Int)<n1:=by omega
  rw [if_neg (λx=>h x.1)]
  clear h
  go_enter Tryz.func26,Tryz.ntmps26
  go_wp2
  go_ret
  exact ⟨rfl,rfl⟩
theorem mcells {Y:World} {b:Nat} {M:Mach} {S:Sl} (h:Bx Y b (machL M S)):(∀ j,j<5->Y.cell? ⟨b,30+j,none⟩=some (S.get j))/\Y.cell? ⟨b,61,none⟩=some (.int .i64 M.b.l)/\Y.cell? ⟨b,62,none⟩=some (.int .i64 M.b.a)/\Y.cell? ⟨b,63,none⟩=some (.bool M.b.g)/\Y.cell? ⟨b,64,none⟩=some (.int .i64 M.b.f) /\
 Y.cell? ⟨b,72,none⟩=some (.int .i64 M.clock)/\Y.cell? ⟨b,73,none⟩=some (.int .i64 M.mready)/\Y.cell? ⟨b,74,none⟩=some (.int .i64 M.aready)/\b<Y.heap.size :=
 ⟨λj hj=>h.at _ _ (ze4 M S j hj),h.at 61 _ rfl,h.at 62 _ rfl,h.at 63 _ rfl,h.at 64 _ rfl,h.at 72 _ rfl,h.at 73 _ rfl,h.at 74 _ rfl,h.z⟩
theorem mcells5 {Y:World} {b:Nat} {M:Mach} {S:Sl} {a0 a1 a2 a3 a4:Option Addr} {c0 c1 c2 c3 c4:Nat} (h:Bx Y b (machL M S)) (e0:S.get 0 = .slice a0 M.mrom.length c0) (e1:S.get 1 = .slice a1 M.arom.length c1) (e2:S.get 2 = .slice a2 M.ram.length c2) (e3:S.get 3 = .slice a3 M.own.length c3) (e4:S.get 4 = .slice a4 M.video.length c4) :
 Y.cell? ⟨b,30,none⟩=some (.slice a0 M.mrom.length c0)/\Y.cell? ⟨b,31,none⟩=some (.slice a1 M.arom.length c1)/\Y.cell? ⟨b,32,none⟩=some (.slice a2 M.ram.length c2)/\Y.cell? ⟨b,33,none⟩=some (.slice a3 M.own.length c3)/\Y.cell? ⟨b,34,none⟩=some (.slice a4 M.video.length c4):=by
 rw [<- e0,<- e1,<- e2,<- e3,<- e4]
 exact ⟨h.at 30 _ rfl,h.at 31 _ rfl,h.at 32 _ rfl,h.at 33 _ rfl,h.at 34 _ rfl⟩
theorem ck_in {Y:World} {b:Nat} {M:Mach} {S:Sl} (hS:S.lens M) (h:Bx Y b (machL M S)):∃ a0 c0 a1 c1 a2 c2 a3 c3 a4 c4,Y.cell? ⟨b,30,none⟩=some (.slice a0 M.mrom.length c0)/\Y.cell? ⟨b,31,none⟩=some (.slice a1 M.arom.length c1)/\Y.cell? ⟨b,32,none⟩=some (.slice a2 M.ram.length c2)/\Y.cell? ⟨b,33,none⟩=some (.slice a3 M.own.length c3)/\Y.cell? ⟨b,34,none⟩=some (.slice a4 M.video.length c4):=by
 obtain ⟨a0,c0,e0⟩:=hS 0 (by omega)
 obtain ⟨a1,c1,e1⟩:=hS 1 (by omega)
 obtain ⟨a2,c2,e2⟩:=hS 2 (by omega)
 obtain ⟨a3,c3,e3⟩:=hS 3 (by omega)
 obtain ⟨a4,c4,e4⟩:=hS 4 (by omega)
 exact ⟨a0,c0,a1,c1,a2,c2,a3,c3,a4,c4,mcells5 h e0 e1 e2 e3 e4⟩
theorem Sd.check (s:Sd) (w:World):Calls Tryz.prog 27 #[.agg (sndL s).toArray] w λe w'=>e = .returned (.int .i64 (if 0<=s.w/\s.w<=15 then 0 else 3))/\Below w.heap.size w w':=by
 by_cases h:0<=s.w/\s.w<=15
 ·rw [if_pos h];exact zei s w h
 ·rw [if_neg h];exact zh9 s w (by omega)
theorem Bem.check (b:Bem) (w:World):Calls Tryz.prog 28 #[.agg #[.int .i64 b.l,.int .i64 b.a,.bool b.g,.int .i64 b.f]] w λe w'=>e = .returned (.int .i64 (if bok b.l b.a b.f then 0 else 3))/\Below w.heap.size w w':=by
 cases h:bok b.l b.a b.f
 ·exact zb6 b.l b.a b.f b.g w (λx=>by rw [(zax _ _ _).2 x] at h;cases h)
 ·exact za8 b.l b.a b.f b.g w ((zax _ _ _).1 h)
theorem zht (M:Mach) (S:Sl) (w:World) (hS:S.lens M) (hz:∀ j,j<5->(M.byt j).length<=9223372036854775807) (hr:¬ (M.mrom.length<=1024/\M.arom.length<=1024)) :
 Calls Tryz.prog 8 #[.agg (machL M S).toArray] w λe w'=>e = .returned (.int .i64 2)/\Below w.heap.size w w':=by
 have hm0:M.mrom.length<=9223372036854775807:=hz 0 (by omega)
 have hm1:M.arom.length<=9223372036854775807:=hz 1 (by omega)
 have hB:=Bx.new w (machL M S) 41 (b:=w.heap.size) rfl
 obtain ⟨a0,c0,a1,c1,a2,c2,a3,c3,a4,c4,d0,d1,d2,d3,d4⟩:=ck_in hS hB
 obtain ⟨_,f0,f1,f2,f3,f4,f5,f6,f7⟩:=mcells hB
 have HB:=hid hB
 have HL:=hid (stA (st0 w) (.cells (machL M S).toArray 41))
 have HR:Hid ((if M.mrom.length<=1024/\M.arom.length<=1024 then (0:Int) else 2)=2):=hid (if_neg hr)
 clear hr
 clear hB hS hz
 go_enter Tryz.func8,Tryz.ntmps8
 go_wp2_with (first
  | (go_at_call 26;refine (zaE _ _ _ _ _ _ _ hm0 hm1).mono ?_;rw [HR.out];rintro e w0 ⟨rfl,rfl⟩))
 go_ret
 exact ⟨rfl,HL.out⟩
theorem ziK (M:Mach) (S:Sl) (w:World) (hS:S.lens M) (hz:∀ j,j<5->(M.byt j).length<=9223372036854775807) (hr:M.mrom.length<=1024/\M.arom.length<=1024) (hl:M.ram.length≠128) :
 Calls Tryz.prog 8 #[.agg (machL M S).toArray] w λe w'=>e = .returned (.int .i64 4)/\Below w.heap.size w w':=by
 have hm0:M.mrom.length<=9223372036854775807:=hz 0 (by omega)
 have hm1:M.arom.length<=9223372036854775807:=hz 1 (by omega)
 have hB:=Bx.new w (machL M S) 41 (b:=w.heap.size) rfl
 obtain ⟨a0,c0,a1,c1,a2,c2,a3,c3,a4,c4,d0,d1,d2,d3,d4⟩:=ck_in hS hB
 obtain ⟨_,f0,f1,f2,f3,f4,f5,f6,f7⟩:=mcells hB
 have HB:=hid hB
 have HL:=hid (stA (st0 w) (.cells (machL M S).toArray 41))
 have HR:Hid ((if M.mrom.length<=1024/\M.arom.length<=1024 then (0:Int) else 2)=0):=hid (if_pos hr)
 have l2:¬ (M.ram.length:Int)=128:=by omega
 clear hr hl
 clear hB hS hz
 go_enter Tryz.func8,Tryz.ntmps8
 go_wp2_with (first
  | (go_at_call 26;refine (zaE _ _ _ _ _ _ _ hm0 hm1).mono ?_;rw [HR.out];rintro e w0 ⟨rfl,rfl⟩))
 go_ret
 exact ⟨rfl,HL.out⟩
theorem ziL (M:Mach) (S:Sl) (w:World) (hS:S.lens M) (hz:∀ j,j<5->(M.byt j).length<=9223372036854775807) (hr:M.mrom.length<=1024/\M.arom.length<=1024) (hl0:M.ram.length=128) (hl:M.own.length≠64) :
 Calls Tryz.prog 8 #[.agg (machL M S).toArray] w λe w'=>e = .returned (.int .i64 4)/\Below w.heap.size w w':=by
 have hm0:M.mrom.length<=9223372036854775807:=hz 0 (by omega)
 have hm1:M.arom.length<=9223372036854775807:=hz 1 (by omega)
 have hB:=Bx.new w (machL M S) 41 (b:=w.heap.size) rfl
 obtain ⟨a0,c0,a1,c1,a2,c2,a3,c3,a4,c4,d0,d1,d2,d3,d4⟩:=ck_in hS hB
 obtain ⟨_,f0,f1,f2,f3,f4,f5,f6,f7⟩:=mcells hB
 have HB:=hid hB
 have HL:=hid (stA (st0 w) (.cells (machL M S).toArray 41))
 have HR:Hid ((if M.mrom.length<=1024/\M.arom.length<=1024 then (0:Int) else 2)=0):=hid (if_pos hr)
 rw [hl0] at d2
 have l2:¬ (M.own.length:Int)=64:=by omega
 clear hr hl hl0
 clear hB hS hz
 go_enter Tryz.func8,Tryz.ntmps8
 go_wp2_with (first
  | (go_at_call 26;refine (zaE _ _ _ _ _ _ _ hm0 hm1).mono ?_;rw [HR.out];rintro e w0 ⟨rfl,rfl⟩))
 go_ret
 exact ⟨rfl,HL.out⟩
theorem zgn (M:Mach) (S:Sl) (w:World) (hS:S.lens M) (hz:∀ j,j<5->(M.byt j).length<=9223372036854775807) (hr:M.mrom.length<=1024/\M.arom.length<=1024) (hl0:M.ram.length=128) (hl1:M.own.length=64) (hl:M.video.length≠256) :
 Calls Tryz.prog 8 #[.agg (machL M S).toArray] w λe w'=>e = .returned (.int .i64 4)/\Below w.heap.size w w':=by
 have hm0:M.mrom.length<=9223372036854775807:=hz 0 (by omega)
 have hm1:M.arom.length<=9223372036854775807:=hz 1 (by omega)
 have hB:=Bx.new w (machL M S) 41 (b:=w.heap.size) rfl
 obtain ⟨a0,c0,a1,c1,a2,c2,a3,c3,a4,c4,d0,d1,d2,d3,d4⟩:=ck_in hS hB
 obtain ⟨_,f0,f1,f2,f3,f4,f5,f6,f7⟩:=mcells hB
 have HB:=hid hB
 have HL:=hid (stA (st0 w) (.cells (machL M S).toArray 41))
 have HR:Hid ((if M.mrom.length<=1024/\M.arom.length<=1024 then (0:Int) else 2)=0):=hid (if_pos hr)
 rw [hl0] at d2
 rw [hl1] at d3
 have l2:¬ (M.video.length:Int)=256:=by omega
 clear hr hl hl0 hl1
 clear hB hS hz
 go_enter Tryz.func8,Tryz.ntmps8
 go_wp2_with (first
  | (go_at_call 26;refine (zaE _ _ _ _ _ _ _ hm0 hm1).mono ?_;rw [HR.out];rintro e w0 ⟨rfl,rfl⟩))
 go_ret
 exact ⟨rfl,HL.out⟩
theorem zhu (M:Mach) (S:Sl) (w:World) (hS:S.lens M) (hz:∀ j,j<5->(M.byt j).length<=9223372036854775807) (hr:M.mrom.length<=1024/\M.arom.length<=1024) (hl:M.ram.length=128/\M.own.length=64/\M.video.length=256) (hw:¬ (0<=M.s.w/\M.s.w<=15)) :
 Calls Tryz.prog 8 #[.agg (machL M S).toArray] w λe w'=>e = .returned (.int .i64 3)/\Below w.heap.size w w':=by
 have hm0:M.mrom.length<=9223372036854775807:=hz 0 (by omega)
 have hm1:M.arom.length<=9223372036854775807:=hz 1 (by omega)
 have hB:=Bx.new w (machL M S) 41 (b:=w.heap.size) rfl
 obtain ⟨a0,c0,a1,c1,a2,c2,a3,c3,a4,c4,d0,d1,d2,d3,d4⟩:=ck_in hS hB
 obtain ⟨_,f0,f1,f2,f3,f4,f5,f6,f7⟩:=mcells hB
 have HB:=hid hB
 have HL:=hid (stA (st0 w) (.cells (machL M S).toArray 41))
 have HR:Hid ((if M.mrom.length<=1024/\M.arom.length<=1024 then (0:Int) else 2)=0):=hid (if_pos hr)
 rw [hl.1] at d2
 rw [hl.2.1] at d3
 rw [hl.2.2] at d4
 have HS:Hid ((if 0<=M.s.w/\M.s.w<=15 then (0:Int) else 3)=3):=hid (if_neg hw)
 clear hr hl hw
 clear hB hS hz
 go_enter Tryz.func8,Tryz.ntmps8
 go_wp2_with (first
  | (go_at_call 26;refine (zaE _ _ _ _ _ _ _ hm0 hm1).mono ?_;rw [HR.out];rintro e w0 ⟨rfl,rfl⟩)
  | (refine wpList_load_mid rfl 36 _ rfl w.heap.size 45 rfl (sndL M.s) _ HB.out.sndR Tryz.underlying36 rfl zaj ?_)
  | (go_at_call 27;refine (Sd.check M.s _).mono ?_;rw [HS.out];rintro e w1 ⟨rfl,hb1⟩;have HB1:=hid (HB.out.kept hb1);have HL1:=hid (stp HL.out hb1);obtain ⟨_,x0,x1,x2,x3,x4,x5,x6,x7⟩:=mcells HB1.out))
 go_ret
 exact ⟨rfl,HL1.out⟩
theorem zhv (M:Mach) (S:Sl) (w:World) (hS:S.lens M) (hz:∀ j,j<5->(M.byt j).length<=9223372036854775807) (hr:M.mrom.length<=1024/\M.arom.length<=1024) (hl:M.ram.length=128/\M.own.length=64/\M.video.length=256) (hw:0<=M.s.w/\M.s.w<=15) (hb:bok M.b.l M.b.a M.b.f=false) :
 Calls Tryz.prog 8 #[.agg (machL M S).toArray] w λe w'=>e = .returned (.int .i64 3)/\Below w.heap.size w w':=by
 have hm0:M.mrom.length<=9223372036854775807:=hz 0 (by omega)
 have hm1:M.arom.length<=9223372036854775807:=hz 1 (by omega)
 have hB:=Bx.new w (machL M S) 41 (b:=w.heap.size) rfl
 obtain ⟨a0,c0,a1,c1,a2,c2,a3,c3,a4,c4,d0,d1,d2,d3,d4⟩:=ck_in hS hB
 obtain ⟨_,f0,f1,f2,f3,f4,f5,f6,f7⟩:=mcells hB
 have HB:=hid hB
 have HL:=hid (stA (st0 w) (.cells (machL M S).toArray 41))
 have HR:Hid ((if M.mrom.length<=1024/\M.arom.length<=1024 then (0:Int) else 2)=0):=hid (if_pos hr)
 rw [hl.1] at d2
 rw [hl.2.1] at d3
 rw [hl.2.2] at d4
 have HS:Hid ((if 0<=M.s.w/\M.s.w<=15 then (0:Int) else 3)=0):=hid (if_pos hw)
 have HBM:Hid ((if bok M.b.l M.b.a M.b.f then (0:Int) else 3)=3):=hid (by rw [hb];rfl)
 clear hr hl hw hb
 clear hB hS hz
 go_enter Tryz.func8,Tryz.ntmps8
 go_wp2_with (first
  | (go_at_call 26;refine (zaE _ _ _ _ _ _ _ hm0 hm1).mono ?_;rw [HR.out];rintro e w0 ⟨rfl,rfl⟩)
  | (refine wpList_load_mid rfl 36 _ rfl w.heap.size 45 rfl (sndL M.s) _ HB.out.sndR Tryz.underlying36 rfl zaj ?_)
  | (go_at_call 27;refine (Sd.check M.s _).mono ?_;rw [HS.out];rintro e w1 ⟨rfl,hb1⟩;have HB1:=hid (HB.out.kept hb1);have HL1:=hid (stp HL.out hb1);obtain ⟨_,x0,x1,x2,x3,x4,x5,x6,x7⟩:=mcells HB1.out)
  | (go_at_call 28;refine (Bem.check M.b _).mono ?_;rw [HBM.out];rintro e w2 ⟨rfl,hb2⟩;have HB2:=hid (HB1.out.kept hb2);have HL2:=hid (stp HL1.out hb2);obtain ⟨_,y0,y1,y2,y3,y4,y5,y6,y7⟩:=mcells HB2.out))
 go_ret
 exact ⟨rfl,HL2.out⟩
theorem zgo (M:Mach) (S:Sl) (w:World) (hS:S.lens M) (hz:∀ j,j<5->(M.byt j).length<=9223372036854775807) (hr:M.mrom.length<=1024/\M.arom.length<=1024) (hl:M.ram.length=128/\M.own.length=64/\M.video.length=256) (hw:0<=M.s.w/\M.s.w<=15) (hb:bok M.b.l M.b.a M.b.f=true) (hc:¬ (0<=M.clock/\M.clock<=200000)) :
 Calls Tryz.prog 8 #[.agg (machL M S).toArray] w λe w'=>e = .returned (.int .i64 3)/\Below w.heap.size w w':=by
 have hm0:M.mrom.length<=9223372036854775807:=hz 0 (by omega)
 have hm1:M.arom.length<=9223372036854775807:=hz 1 (by omega)
 have hB:=Bx.new w (machL M S) 41 (b:=w.heap.size) rfl
 obtain ⟨a0,c0,a1,c1,a2,c2,a3,c3,a4,c4,d0,d1,d2,d3,d4⟩:=ck_in hS hB
 obtain ⟨_,f0,f1,f2,f3,f4,f5,f6,f7⟩:=mcells hB
 have HB:=hid hB
 have HL:=hid (stA (st0 w) (.cells (machL M S).toArray 41))
 have HR:Hid ((if M.mrom.length<=1024/\M.arom.length<=1024 then (0:Int) else 2)=0):=hid (if_pos hr)
 rw [hl.1] at d2
 rw [hl.2.1] at d3
 rw [hl.2.2] at d4
 have HS:Hid ((if 0<=M.s.w/\M.s.w<=15 then (0:Int) else 3)=0):=hid (if_pos hw)
 have HBM:Hid ((if bok M.b.l M.b.a M.b.f then (0:Int) else 3)=0):=hid (by rw [hb];rfl)
 have K1:Hid (decide (0<=M.clock/\M.clock<=200000)=false):=hid (decide_eq_false hc)
 clear hr hl hw hb hc
 clear hB hS hz
 go_enter Tryz.func8,Tryz.ntmps8
 go_wp2_with (first
  | (go_at_call 26;refine (zaE _ _ _ _ _ _ _ hm0 hm1).mono ?_;rw [HR.out];rintro e w0 ⟨rfl,rfl⟩)
  | (refine wpList_load_mid rfl 36 _ rfl w.heap.size 45 rfl (sndL M.s) _ HB.out.sndR Tryz.underlying36 rfl zaj ?_)
  | (go_at_call 27;refine (Sd.check M.s _).mono ?_;rw [HS.out];rintro e w1 ⟨rfl,hb1⟩;have HB1:=hid (HB.out.kept hb1);have HL1:=hid (stp HL.out hb1);obtain ⟨_,x0,x1,x2,x3,x4,x5,x6,x7⟩:=mcells HB1.out)
  | (go_at_call 28;refine (Bem.check M.b _).mono ?_;rw [HBM.out];rintro e w2 ⟨rfl,hb2⟩;have HB2:=hid (HB1.out.kept hb2);have HL2:=hid (stp HL1.out hb2);obtain ⟨_,y0,y1,y2,y3,y4,y5,y6,y7⟩:=mcells HB2.out)
  | (go_at_call 29;refine (zbf _ _ _).mono ?_;(first|rw [K1.out]|rw [K2.out]|rw [K3.out]);rintro e w0 ⟨rfl,rfl⟩))
 go_ret
 exact ⟨rfl,HL2.out⟩
theorem zhw (M:Mach) (S:Sl) (w:World) (hS:S.lens M) (hz:∀ j,j<5->(M.byt j).length<=9223372036854775807) (hr:M.mrom.length<=1024/\M.arom.length<=1024) (hl:M.ram.length=128/\M.own.length=64/\M.video.length=256) (hw:0<=M.s.w/\M.s.w<=15) (hb:bok M.b.l M.b.a M.b.f=true) (hc:0<=M.clock/\M.clock<=200000) (hm:¬ (0<=M.mready/\M.mready<=M.clock+20000)) :
 Calls Tryz.prog 8 #[.agg (machL M S).toArray] w λe w'=>e = .returned (.int .i64 3)/\Below w.heap.size w w':=by
 have hm0:M.mrom.length<=9223372036854775807:=hz 0 (by omega)
 have hm1:M.arom.length<=9223372036854775807:=hz 1 (by omega)
 have hB:=Bx.new w (machL M S) 41 (b:=w.heap.size) rfl
 obtain ⟨a0,c0,a1,c1,a2,c2,a3,c3,a4,c4,d0,d1,d2,d3,d4⟩:=ck_in hS hB
 obtain ⟨_,f0,f1,f2,f3,f4,f5,f6,f7⟩:=mcells hB
 have HB:=hid hB
 have HL:=hid (stA (st0 w) (.cells (machL M S).toArray 41))
 have HR:Hid ((if M.mrom.length<=1024/\M.arom.length<=1024 then (0:Int) else 2)=0):=hid (if_pos hr)
 rw [hl.1] at d2
 rw [hl.2.1] at d3
 rw [hl.2.2] at d4
 have HS:Hid ((if 0<=M.s.w/\M.s.w<=15 then (0:Int) else 3)=0):=hid (if_pos hw)
 have HBM:Hid ((if bok M.b.l M.b.a M.b.f then (0:Int) else 3)=0):=hid (by rw [hb];rfl)
 have K1:Hid (decide (0<=M.clock/\M.clock<=200000)=true):=hid (decide_eq_true hc)
 have K2:Hid (decide (0<=M.mready/\M.mready<=M.clock+20000)=false):=hid (decide_eq_false hm)
 obtain ⟨hc0,hc1⟩:=hc
 clear hr hl hw hb hm
 clear hB hS hz
 go_enter Tryz.func8,Tryz.ntmps8
 go_wp2_with (first
  | (go_at_call 26;refine (zaE _ _ _ _ _ _ _ hm0 hm1).mono ?_;rw [HR.out];rintro e w0 ⟨rfl,rfl⟩)
  | (refine wpList_load_mid rfl 36 _ rfl w.heap.size 45 rfl (sndL M.s) _ HB.out.sndR Tryz.underlying36 rfl zaj ?_)
  | (go_at_call 27;refine (Sd.check M.s _).mono ?_;rw [HS.out];rintro e w1 ⟨rfl,hb1⟩;have HB1:=hid (HB.out.kept hb1);have HL1:=hid (stp HL.out hb1);obtain ⟨_,x0,x1,x2,x3,x4,x5,x6,x7⟩:=mcells HB1.out)
  | (go_at_call 28;refine (Bem.check M.b _).mono ?_;rw [HBM.out];rintro e w2 ⟨rfl,hb2⟩;have HB2:=hid (HB1.out.kept hb2);have HL2:=hid (stp HL1.out hb2);obtain ⟨_,y0,y1,y2,y3,y4,y5,y6,y7⟩:=mcells HB2.out)
  | (go_at_call 29;refine (zbf _ _ _).mono ?_;(first|rw [K1.out]|rw [K2.out]|rw [K3.out]);rintro e w0 ⟨rfl,rfl⟩))
 go_ret
 exact ⟨rfl,HL2.out⟩
theorem ziM (M:Mach) (S:Sl) (w:World) (hS:S.lens M) (hz:∀ j,j<5->(M.byt j).length<=9223372036854775807) (hr:M.mrom.length<=1024/\M.arom.length<=1024) (hl:M.ram.length=128/\M.own.length=64/\M.video.length=256) (hw:0<=M.s.w/\M.s.w<=15) (hb:bok M.b.l M.b.a M.b.f=true) (hc:0<=M.clock/\M.clock<=200000) (hm:0<=M.mready/\M.mready<=M.clock+20000) (ha:¬ (0<=M.aready/\M.aready<=M.clock+20000)) :
 Calls Tryz.prog 8 #[.agg (machL M S).toArray] w λe w'=>e = .returned (.int .i64 3)/\Below w.heap.size w w':=by
 have hm0:M.mrom.length<=9223372036854775807:=hz 0 (by omega)
 have hm1:M.arom.length<=9223372036854775807:=hz 1 (by omega)
 have hB:=Bx.new w (machL M S) 41 (b:=w.heap.size) rfl
 obtain ⟨a0,c0,a1,c1,a2,c2,a3,c3,a4,c4,d0,d1,d2,d3,d4⟩:=ck_in hS hB
 obtain ⟨_,f0,f1,f2,f3,f4,f5,f6,f7⟩:=mcells hB
 have HB:=hid hB
 have HL:=hid (stA (st0 w) (.cells (machL M S).toArray 41))
 have HR:Hid ((if M.mrom.length<=1024/\M.arom.length<=1024 then (0:Int) else 2)=0):=hid (if_pos hr)
 rw [hl.1] at d2
 rw [hl.2.1] at d3
 rw [hl.2.2] at d4
 have HS:Hid ((if 0<=M.s.w/\M.s.w<=15 then (0:Int) else 3)=0):=hid (if_pos hw)
 have HBM:Hid ((if bok M.b.l M.b.a M.b.f then (0:Int) else 3)=0):=hid (by rw [hb];rfl)
 have K1:Hid (decide (0<=M.clock/\M.clock<=200000)=true):=hid (decide_eq_true hc)
 have K2:Hid (decide (0<=M.mready/\M.mready<=M.clock+20000)=true):=hid (decide_eq_true hm)
 have K3:Hid (decide (0<=M.aready/\M.aready<=M.clock+20000)=false):=hid (decide_eq_false ha)
 obtain ⟨hc0,hc1⟩:=hc
 clear hr hl hw hb hm ha
 clear hB hS hz
 go_enter Tryz.func8,Tryz.ntmps8
 go_wp2_with (first
  | (go_at_call 26;refine (zaE _ _ _ _ _ _ _ hm0 hm1).mono ?_;rw [HR.out];rintro e w0 ⟨rfl,rfl⟩)
  | (refine wpList_load_mid rfl 36 _ rfl w.heap.size 45 rfl (sndL M.s) _ HB.out.sndR Tryz.underlying36 rfl zaj ?_)
  | (go_at_call 27;refine (Sd.check M.s _).mono ?_;rw [HS.out];rintro e w1 ⟨rfl,hb1⟩;have HB1:=hid (HB.out.kept hb1);have HL1:=hid (stp HL.out hb1);obtain ⟨_,x0,x1,x2,x3,x4,x5,x6,x7⟩:=mcells HB1.out)
  | (go_at_call 28;refine (Bem.check M.b _).mono ?_;rw [HBM.out];rintro e w2 ⟨rfl,hb2⟩;have HB2:=hid (HB1.out.kept hb2);have HL2:=hid (stp HL1.out hb2);obtain ⟨_,y0,y1,y2,y3,y4,y5,y6,y7⟩:=mcells HB2.out)
  | (go_at_call 29;refine (zbf _ _ _).mono ?_;(first|rw [K1.out]|rw [K2.out]|rw [K3.out]);rintro e w0 ⟨rfl,rfl⟩))
 go_ret
 exact ⟨rfl,HL2.out⟩
theorem zk7 (M:Mach) (S:Sl) (w:World) (hS:S.lens M) (hz:∀ j,j<5->(M.byt j).length<=9223372036854775807) (hr:M.mrom.length<=1024/\M.arom.length<=1024) (hl:M.ram.length=128/\M.own.length=64/\M.video.length=256) (hw:0<=M.s.w/\M.s.w<=15) (hb:bok M.b.l M.b.a M.b.f=true) (hc:0<=M.clock/\M.clock<=200000) (hm:0<=M.mready/\M.mready<=M.clock+20000) (ha:0<=M.aready/\M.aready<=M.clock+20000) :
 Calls Tryz.prog 8 #[.agg (machL M S).toArray] w λe w'=>e = .returned (.int .i64 0)/\Below w.heap.size w w':=by
 have hm0:M.mrom.length<=9223372036854775807:=hz 0 (by omega)
 have hm1:M.arom.length<=9223372036854775807:=hz 1 (by omega)
 have hB:=Bx.new w (machL M S) 41 (b:=w.heap.size) rfl
 obtain ⟨a0,c0,a1,c1,a2,c2,a3,c3,a4,c4,d0,d1,d2,d3,d4⟩:=ck_in hS hB
 obtain ⟨_,f0,f1,f2,f3,f4,f5,f6,f7⟩:=mcells hB
 have HB:=hid hB
 have HL:=hid (stA (st0 w) (.cells (machL M S).toArray 41))
 have HR:Hid ((if M.mrom.length<=1024/\M.arom.length<=1024 then (0:Int) else 2)=0):=hid (if_pos hr)
 rw [hl.1] at d2
 rw [hl.2.1] at d3
 rw [hl.2.2] at d4
 have HS:Hid ((if 0<=M.s.w/\M.s.w<=15 then (0:Int) else 3)=0):=hid (if_pos hw)
 have HBM:Hid ((if bok M.b.l M.b.a M.b.f then (0:Int) else 3)=0):=hid (by rw [hb];rfl)
 have K1:Hid (decide (0<=M.clock/\M.clock<=200000)=true):=hid (decide_eq_true hc)
 have K2:Hid (decide (0<=M.mready/\M.mready<=M.clock+20000)=true):=hid (decide_eq_true hm)
 have K3:Hid (decide (0<=M.aready/\M.aready<=M.clock+20000)=true):=hid (decide_eq_true ha)
 obtain ⟨hc0,hc1⟩:=hc
 clear hr hl hw hb hm ha
 clear hB hS hz
 go_enter Tryz.func8,Tryz.ntmps8
 go_wp2_with (first
  | (go_at_call 26;refine (zaE _ _ _ _ _ _ _ hm0 hm1).mono ?_;rw [HR.out];rintro e w0 ⟨rfl,rfl⟩)
  | (refine wpList_load_mid rfl 36 _ rfl w.heap.size 45 rfl (sndL M.s) _ HB.out.sndR Tryz.underlying36 rfl zaj ?_)
  | (go_at_call 27;refine (Sd.check M.s _).mono ?_;rw [HS.out];rintro e w1 ⟨rfl,hb1⟩;have HB1:=hid (HB.out.kept hb1);have HL1:=hid (stp HL.out hb1);obtain ⟨_,x0,x1,x2,x3,x4,x5,x6,x7⟩:=mcells HB1.out)
  | (go_at_call 28;refine (Bem.check M.b _).mono ?_;rw [HBM.out];rintro e w2 ⟨rfl,hb2⟩;have HB2:=hid (HB1.out.kept hb2);have HL2:=hid (stp HL1.out hb2);obtain ⟨_,y0,y1,y2,y3,y4,y5,y6,y7⟩:=mcells HB2.out)
  | (go_at_call 29;refine (zbf _ _ _).mono ?_;(first|rw [K1.out]|rw [K2.out]|rw [K3.out]);rintro e w0 ⟨rfl,rfl⟩))
 go_ret
 exact ⟨rfl,HL2.out⟩
theorem zbI (M:Mach) (S:Sl) (w:World) (hS:S.lens M) (hz:∀ j,j<5->(M.byt j).length<=9223372036854775807) :
 Calls Tryz.prog 8 #[.agg (machL M S).toArray] w λe w'=>e = .returned (.int .i64 M.chk)/\Below w.heap.size w w':=by
 unfold Mach.chk
 by_cases hr:M.mrom.length<=1024/\M.arom.length<=1024
 ·rw [if_pos hr]
  by_cases hl:M.ram.length=128/\M.own.length=64/\M.video.length=256
  ·rw [if_pos hl]
   by_cases hw:0<=M.s.w/\M.s.w<=15
   ·rw [if_pos hw]
    cases hb:bok M.b.l M.b.a M.b.f
    ·exact zhv M S w hS hz hr hl hw hb
    ·rw [if_pos rfl]
     by_cases hc:0<=M.clock/\M.clock<=200000
     ·by_cases hm:0<=M.mready/\M.mready<=M.clock+20000
      ·by_cases ha:0<=M.aready/\M.aready<=M.clock+20000
       ·rw [if_pos ⟨hc,hm,ha⟩];exact zk7 M S w hS hz hr hl hw hb hc hm ha
       ·rw [if_neg (λx=>ha x.2.2)];exact ziM M S w hS hz hr hl hw hb hc hm ha
      ·rw [if_neg (λx=>hm x.2.1)];exact zhw M S w hS hz hr hl hw hb hc hm
     ·rw [if_neg (λx=>hc x.1)];exact zgo M S w hS hz hr hl hw hb hc
   ·rw [if_neg hw];exact zhu M S w hS hz hr hl hw
  ·rw [if_neg hl]
   by_cases h1:M.ram.length=128
   ·by_cases h2:M.own.length=64
    ·exact zgn M S w hS hz hr h1 h2 (λh3=>hl ⟨h1,h2,h3⟩)
    ·exact ziL M S w hS hz hr h1 h2
   ·exact ziK M S w hS hz hr h1
 ·rw [if_neg hr];exact zht M S w hS hz hr
theorem zfb {P:Program} {ops:Array Oper} {rest:List Oper} {op:Oper} {a:Act} {w:World} {Q:Exit->Act->World->Prop} (hgd:op.guard=none) (t:TypeId) (i:Nat) (x:Operand) (ho:op.op = .build t #[(i,x)]) (xv v:Value) (hx:a.eval x=xv)
 (hrun:(Instr.build t #[(i,xv)]).run P w = .ok v w) (h:wpList P ops Q rest (a.put op.dst v) w):wpList P ops Q (op::rest) a w :=
 wpList_build hgd t _ ho v (by simp only [List.map_toArray,List.map_cons,List.map_nil,hx];exact hrun) h
theorem zbC {P:Program} {a:Act} {o:Oper} {w:World} (t:TypeId) (i j k:Nat) (x y z:Operand) (ho:o.op = .build t #[(i,x),(j,y),(k,z)]) (xv yv zv v:Value) (hx:a.eval x=xv) (hy:a.eval y=yv) (hz:a.eval z=zv)
 (hrun:(Instr.build t #[(i,xv),(j,yv),(k,zv)]).run P w = .ok v w):(execOp a.eval o).run P w = .ok (.value v) w :=
 zeo t _ ho v (by simp only [List.map_toArray,List.map_cons,List.map_nil,hx,hy,hz];exact hrun)
theorem zou (g n:Nat) (w:World):(Instr.build 132 #[(0,pt g 30),(1,mval 87 g 0),(2,.agg (portsN (fxE g (mE n)).rdM (fxE g (mE n)).wrM 32).toArray)]).run Tryz.prog w = .ok (.agg (sM g n).toArray) w:=by kernel_rfl
theorem zov (g a:Nat) (w:World):(Instr.build 132 #[(0,pt g 31),(1,mval 89 g 0),(2,.agg (apL a g 24).toArray)]).run Tryz.prog w = .ok (.agg (sA g a).toArray) w:=by kernel_rfl
theorem za0 {P:Program} {md:Region.Mode} {ops:Array Oper} {Q:Exit->Act->World->Prop} {S:World->Prop} {fuel:Nat} {listed:Array Bool} {a:Act} {w:World} {i:Nat} {op:Oper} (hr:Region.ready md ops listed=[i]) (hi:ops[i]? = some op) (hgd:op.guard=none) (ty:TypeId) (x y:Operand) (ho:op.op = .store ty x y)
 (b o:Nat) (cells:Array Value) (hx:a.eval x = .pointer (some ⟨b,o,none⟩)) (hy:a.eval y = .agg cells) (ht:w.there b o cells.size) (hn:(P.info? ty).map (·.size)=some cells.size) (h1:cells.all (·.oneCell')=true) (hS:S (w.setCells b o cells.toList))
 (h:wpAnyH P md ops Q S fuel (listed.setIfInBounds i true) (a.put op.dst undef) (w.setCells b o cells.toList)):wpAnyH P md ops Q S (fuel+1) listed a w :=
 wpAnyH_ready hr (by simp) (AllReadyH.cons hi (λK hK=>zam hgd ty x y ho b o cells hx hy ht hn h1 (hK.out _ _ hS (λ_=>h))) AllReadyH.nil)
theorem sM_sz (g n:Nat):(sM g n).toArray.size=66:=by rw [List.size_toArray,zep]
theorem sA_sz (g n:Nat):(sA g n).toArray.size=66:=by rw [List.size_toArray,zgZ]
theorem zk8 {M:Mach} (hf:M.fit):∀ j,j<5->(M.byt j).length<=1024:=λj hj=>by
 rcases five hj with rfl|rfl|rfl|rfl|rfl
 ·exact hf.mrom
 ·exact hf.arom
 ·show M.ram.length<=1024;rw [hf.ram];omega
 ·show M.own.length<=1024;rw [hf.own];omega
 ·show M.video.length<=1024;rw [hf.video];omega
theorem one66 {v0 v1:Value} {L:List Value} (h0:v0.oneCell'=true) (h1:v1.oneCell'=true) (h:∀ v∈L,v.oneCell'=true):(v0::v1::L).toArray.all (·.oneCell')=true :=
 all_oneCell_toArray (λv hv=>by
  simp only [List.mem_cons] at hv
  rcases hv with rfl|rfl|hv
  ·exact h0
  ·exact h1
  ·exact h v hv)
theorem one_m (g n:Nat):(sM g n).toArray.all (·.oneCell')=true:=one66 rfl rfl (λv hv=>by
 obtain ⟨i,rfl|rfl⟩:=zcm _ _ v 32 hv
 ·exact oneR _ _
 ·exact oneW _ _)
theorem one_a (g a:Nat):(sA g a).toArray.all (·.oneCell')=true:=one66 rfl rfl (λv hv=>by
 obtain ⟨i,rfl|rfl⟩:=zcm _ _ v 32 hv
 ·unfold apR;split <;> rfl
 ·unfold apW;split
  ·rfl
  ·split <;> rfl)
theorem OwnK.room {B:Nat} {M:Mach} {S:Sl} {Y:World} (h:OwnK B M S 5 Y) (hf:M.fit):B<=Y.heap.size:=by
 rcases h.own 2 (by omega) with ⟨_,e⟩|⟨b,cap,_,_,h3,h4⟩
 ·have e':M.ram=[]:=e
  have:=hf.ram
  rw [e'] at this
  simp at this
 ·have:=h4.z;omega
structure OP (w w2 : World) (M : Mach) (S1 : Sl) (A B : List Value) (Y : World) : Prop where
 low:Below w.heap.size w Y
 bx:Bx Y w2.heap.size (halfL M S1 A B)
 old:∀ b,b<w2.heap.size->Y.heap[b]? = w2.heap[b]?
theorem OP.kept {w w2:World} {M:Mach} {S1:Sl} {A B:List Value} {Y Y':World} (h:OP w w2 M S1 A B Y) (hb:Below Y.heap.size Y Y'):OP w w2 M S1 A B Y' :=
 ⟨stp h.low hb,h.bx.kept hb,λb hb2=>(hb.block b (by have:=h.bx.z;omega)).trans (h.old b hb2)⟩
section
variable {w w2 : World} {M : Mach} {S1 : Sl} {A B : List Value} {Y : World} {g : Nat}
theorem OP.drew' (h:OP w w2 M S1 A B Y):OP w w2 M S1 A B Y.drew:=⟨h.low.drew,h.bx.drew,h.old⟩
theorem OP.bx' (h:OP w w2 M S1 A B Y) (hg:w2.heap.size=g):Bx Y g (halfL M S1 A B):=hg ▸ h.bx
theorem OP.th77 (h:OP w w2 M S1 nil66 nil66 Y) (hg:w2.heap.size=g):Y.there g 77 66:=(h.bx' hg).there 77 66 (by rw [zcn _ _ _ _ za9 za9];omega)
theorem OP.th143 (h:OP w w2 M S1 A nil66 Y) (hg:w2.heap.size=g) (hA:A.length=66):Y.there g 143 66:=(h.bx' hg).there 143 66 (by rw [zcn _ _ _ _ hA za9];omega)
theorem OP.put1 {A':List Value} (h:OP w w2 M S1 nil66 nil66 Y) (hg:w2.heap.size=g) (hA:A'.length=66) (hw:w.heap.size<=g):OP w w2 M S1 A' nil66 (Y.setCells g 77 A'):=by
 subst hg
 have hx:=h.bx.puts 77 A' (by rw [zcn _ _ _ _ za9 za9];omega)
 rw [zhq _ _ _ _ _ (by rw [hA,za9])] at hx
 exact ⟨Bl.puts h.low hw _,hx,λb hb=>(zag (by omega) _ _ _).trans (h.old b hb)⟩
theorem OP.put2 {B':List Value} (h:OP w w2 M S1 A nil66 Y) (hg:w2.heap.size=g) (hA:A.length=66) (hB:B'.length=66) (hw:w.heap.size<=g):OP w w2 M S1 A B' (Y.setCells g 143 B'):=by
 subst hg
 have hx:=h.bx.puts 143 B' (by rw [zcn _ _ _ _ hA za9];omega)
 rw [zhr _ _ _ _ _ hA (by rw [hB,za9])] at hx
 exact ⟨Bl.puts h.low hw _,hx,λb hb=>(zag (by omega) _ _ _).trans (h.old b hb)⟩
theorem EnvM.keep {n:Nat} {Y':World} (h:EnvM g (mE n) Y) (hb:Below Y.drew.heap.size Y.drew Y'):EnvM g (mE n) Y':=by
 obtain ⟨e0,e1,e2,e3,e4,e5,e6,e7,e8,e9,e10⟩:=h
 exact ⟨e0.drew.kept hb,e1.drew.kept hb,e2.drew.kept hb,e3.drew.kept hb,e4.drew.kept hb,e5.drew.kept hb,e6.drew.kept hb,e7.drew.kept hb,e8.drew.kept hb,e9.drew.kept hb,e10.drew.kept hb⟩
theorem EnvM.off {n o:Nat} {vs:List Value} (h:EnvM g (mE n) Y) (hn:g<n):EnvM g (mE n) (Y.setCells g o vs):=by
 obtain ⟨e0,e1,e2,e3,e4,e5,e6,e7,e8,e9,e10⟩:=h
 exact ⟨e0.fars (by show g≠n+1;omega) _ _,e1.fars (by show g≠n+2;omega) _ _,e2.fars (by show g≠n+3;omega) _ _,e3.fars (by show g≠n+4;omega) _ _,e4.fars (by show g≠n+5;omega) _ _,e5.fars (by show g≠n+6;omega) _ _,e6.fars (by show g≠n+7;omega) _ _,e7.fars (by show g≠n+8;omega) _ _,e8.fars (by show g≠n+9;omega) _ _,e9.fars (by show g≠n+10;omega) _ _,e10.fars (by show g≠n+11;omega) _ _⟩
def ApB (g a:Nat) (Y:World):Prop:=Bx Y a [pt g 0] /\ ∀ k,k<24->Bx Y (a+3+2*k) [pt g 0]/\Bx Y (a+4+2*k) [.int .i64 k]
theorem zow {Z X w4:World} (h:LnAP Z g 24 X) (hs:∀ k,k≠Z.heap.size+1->w4.heap[k]? = X.heap[k]?) (hz:X.heap.size=w4.heap.size):ApB g Z.heap.size w4 :=
 ⟨h.b.same (Nat.le_of_eq hz) (hs _ (by omega)),λk hk=>⟨(h.sb k hk).1.same (Nat.le_of_eq hz) (hs _ (by omega)),(h.sb k hk).2.same (Nat.le_of_eq hz) (hs _ (by omega))⟩⟩
theorem zox {a o:Nat} {vs:List Value} (h:ApB g a Y) (ha:g<a):ApB g a (Y.setCells g o vs) :=
 ⟨h.1.fars (by omega) _ _,λk hk=>⟨(h.2 k hk).1.fars (by omega) _ _,(h.2 k hk).2.fars (by omega) _ _⟩⟩
end
theorem zeq (M:Mach) (S:Sl) (w:World) (hS:S.lens M) (hs:∀ j,j<5->sliceAt w (S.get j) (M.byt j)) (hf:M.fit) (hf2:M.b.f<=20000) :
 Calls Tryz.prog 51 #[.agg (machL M S).toArray] w λe w'=>∃ F:Fx,F.B=w.heap.size/\e = .returned (.tuple #[pt F.g 0,.int .i64 0])/\(F.B<=F.mr/\F.B<=F.ar)/\Bd F w' M Tk.zero/\Below w.heap.size w w':=by
 have hB:=Bx.new w (machL M S) 41 (b:=w.heap.size) rfl
 have HB:=hid hB
 have HS:=hid hs
 have HC:=hid (zgl hf hf2)
 have HSL:=hid hS
 have HF:=hid hf
 have HLL:=hid (zk8 hf)
 clear hB hs hS hf
 go_enter Tryz.func51,Tryz.ntmps51
 go_wp2_with (first
  | (refine wpList_load_mid rfl 41 _ rfl w.heap.size 0 rfl (machL M S) _ HB1.out.c Tryz.underlying41 rfl zad ?_)
  | (refine wpList_load_mid rfl 41 _ rfl w.heap.size 0 rfl (machL M S) _ HB.out.c Tryz.underlying41 rfl zad ?_)
  | (refine zfb rfl 134 0 _ rfl (.agg (machL M S1).toArray) _ rfl (ziJ M S1 _) ?_)
  | (go_at_call 8;refine (zbI M S _ HSL.out (λj hj=>Nat.le_trans (HLL.out j hj) (by omega))).mono ?_;rw [HC.out];rintro e w1 ⟨rfl,hb1⟩;have HB1:=hid (HB.out.kept hb1);have HL1:=hid (stp (stA (st0 w) (.cells (machL M S).toArray 41)) hb1))
  | (go_at_call 86;refine (zgk M S _ (λj hj=>(HS.out j hj).kept HL1.out) (λj hj=>Nat.le_trans (HLL.out j hj) (by omega))).mono ?_;rintro e w2 ⟨S1,rfl,ho,hb2⟩;have HO:=hid ho;have HL2:=hid (stp HL1.out hb2);have hz2:=hb2.size;clear ho hb2 hb1))
 have hz0:w.heap.size<=w1.heap.size:=HL1.out.size
 have HZ:=hid hz2
 have HW2:=hid HL2.out.size
 have HZ0:=hid hz0
 refine Pl.cutW (OP w w2 M S1 nil66 nil66) ⟨stA HL2.out _,Bx.new w2 _ _ rfl,λb hb=>Below.heap_alloc _ _ _ hb⟩ ?_
 intro Y hY
 have HY:=hid hY
 clear hY hz2 hz0
 generalize hg:w2.heap.size=g at *
 have HG:=hid hg
 clear hg
 refine wp_region_held_drew (S:=λ_=>True) (by kernel_rfl) trivial ?_
 intro _
 refine tqK 0 ⟨some 15,_,_,_,_,none⟩ trivial ?_
 simp only [Act.put,xA,xB,xC]
 refine tqK 1 ⟨some 16,_,_,_,_,none⟩ trivial ?_
 simp only [Act.put,xA,xB,xC]
 refine tqK 2 ⟨some 17,_,_,_,_,none⟩ trivial ?_
 simp only [Act.put,xA,xB,xC]
 refine tqK 3 ⟨some 18,_,_,_,_,none⟩ trivial ?_
 simp only [Act.put,xA,xB,xC]
 refine tqK 4 ⟨some 19,_,_,_,_,none⟩ trivial ?_
 simp only [Act.put,xA,xB,xC]
 refine tqK 5 ⟨some 20,_,_,_,_,none⟩ trivial ?_
 simp only [Act.put,xA,xB,xC]
 refine tqK 6 ⟨some 21,_,_,_,_,none⟩ trivial ?_
 simp only [Act.put,xA,xB,xC]
 refine tqK 7 ⟨some 22,_,_,_,_,none⟩ trivial ?_
 simp only [Act.put,xA,xB,xC]
 refine wpAnyH_ready (rs:=[8]) (by kernel_rfl) (by simp) ?_
 refine AllReadyH.cons (o:=⟨some 23,_,_,_,_,none⟩) rfl (λK hK=>?_) AllReadyH.nil
 go_simp
 go_at_call 88
 refine (ze9 g _).mono ?_
 rintro e w3 ⟨rfl,hb3,hE⟩
 have HY3:=hid (HY.out.drew'.kept hb3)
 have HE:=hid hE
 have HN:Hid (g<Y.drew.heap.size):=hid (by have:=HY.out.bx.z;rw [HG.out] at this;exact this)
 clear hb3 hE
 generalize hn:Y.drew.heap.size=n at *
 clear hn
 try go_wp2_with fail
 refine hK.out _ _ trivial (λ_=>?_)
 clear hK K
 try simp only [Act.put,xA,xB,xC]
 refine wpAnyH_take (i:=9) (oi:=⟨some 24,_,_,_,_,none⟩) (v:=.agg (sM g n).toArray) rfl (by kernel_rfl) (by kernel_rfl) (by kernel_rfl) (λ_ _ _ h=>h) (Or.inl ⟨by rfl,λw _=>zbC 132 0 1 2 _ _ _ rfl (pt g 30) (mval 87 g 0) (.agg (portsN (fxE g (mE n)).rdM (fxE g (mE n)).wrM 32).toArray) (.agg (sM g n).toArray) rfl rfl rfl (zou g n w)⟩) trivial ?_
 simp only [Act.put,xA,xB,xC]
 refine tqK 10 ⟨some 25,_,_,_,_,none⟩ trivial ?_
 simp only [Act.put,xA,xB,xC]
 refine tqK 11 ⟨some 26,_,_,_,_,none⟩ trivial ?_
 simp only [Act.put,xA,xB,xC]
 refine za0 (i:=12) (op:=⟨none,_,_,_,_,none⟩) (by kernel_rfl) rfl rfl 132 _ _ rfl g 77 (sM g n).toArray rfl rfl (by rw [sM_sz];exact HY3.out.th77 HG.out) (by rw [sM_sz];exact zfK) (one_m g n) trivial ?_
 refine wpAnyH_done (by kernel_rfl) ?_ _
 refine Pl.cutE (λZ=>OP w w2 M S1 (sM g n) nil66 Z/\EnvM g (mE n) Z) ⟨OP.put1 HY3.out HG.out (zep g n) HW2.out,HE.out.off HN.out⟩ ?_
 rintro Z ⟨hZ1,hZ2⟩
 have HZ1:=hid hZ1
 have HZ2:=hid hZ2
 clear hZ1 hZ2
 go_wp2
 refine wp_region_held_drew (S:=λ_=>True) (by kernel_rfl) trivial ?_
 intro _
 refine tqK 0 ⟨some 27,_,_,_,_,none⟩ trivial ?_
 simp only [Act.put,xA,xB,xC]
 refine tqK 1 ⟨some 28,_,_,_,_,none⟩ trivial ?_
 simp only [Act.put,xA,xB,xC]
 refine tqK 2 ⟨some 29,_,_,_,_,none⟩ trivial ?_
 simp only [Act.put,xA,xB,xC]
 refine tqK 3 ⟨some 30,_,_,_,_,none⟩ trivial ?_
 simp only [Act.put,xA,xB,xC]
 refine tqK 4 ⟨some 31,_,_,_,_,none⟩ trivial ?_
 simp only [Act.put,xA,xB,xC]
 refine tqK 5 ⟨some 32,_,_,_,_,none⟩ trivial ?_
 simp only [Act.put,xA,xB,xC]
 refine tqK 6 ⟨some 33,_,_,_,_,none⟩ trivial ?_
 simp only [Act.put,xA,xB,xC]
 refine tqK 7 ⟨some 34,_,_,_,_,none⟩ trivial ?_
 simp only [Act.put,xA,xB,xC]
 refine wpAnyH_ready (rs:=[8]) (by kernel_rfl) (by simp) ?_
 refine AllReadyH.cons (o:=⟨some 35,_,_,_,_,none⟩) rfl (λK hK=>?_) AllReadyH.nil
 go_simp
 go_at_call 90
 refine (zfa g _).mono ?_
 rintro e w4 ⟨rfl,X,hX,hb4,hsame,hsz⟩
 have HZ4:=hid (HZ1.out.drew'.kept hb4)
 have HE4:=hid (HZ2.out.keep hb4)
 have HX:=hid (zow hX hsame hsz)
 have HA:Hid (g<Z.drew.heap.size):=hid (by have:=HZ1.out.bx.z;rw [HG.out] at this;exact this)
 clear hb4 hX hsame hsz
 generalize ha:Z.drew.heap.size=a at *
 clear ha
 try go_wp2_with fail
 refine hK.out _ _ trivial (λ_=>?_)
 clear hK K
 try simp only [Act.put,xA,xB,xC]
 refine wpAnyH_take (i:=9) (oi:=⟨some 36,_,_,_,_,none⟩) (v:=.agg (sA g a).toArray) rfl (by kernel_rfl) (by kernel_rfl) (by kernel_rfl) (λ_ _ _ h=>h) (Or.inl ⟨by rfl,λw _=>zbC 132 0 1 2 _ _ _ rfl (pt g 31) (mval 89 g 0) (.agg (apL a g 24).toArray) (.agg (sA g a).toArray) rfl rfl rfl (zov g a w)⟩) trivial ?_
 simp only [Act.put,xA,xB,xC]
 refine tqK 10 ⟨some 37,_,_,_,_,none⟩ trivial ?_
 simp only [Act.put,xA,xB,xC]
 refine tqK 11 ⟨some 38,_,_,_,_,none⟩ trivial ?_
 simp only [Act.put,xA,xB,xC]
 refine za0 (i:=12) (op:=⟨none,_,_,_,_,none⟩) (by kernel_rfl) rfl rfl 132 _ _ rfl g 143 (sA g a).toArray rfl rfl (by rw [sA_sz];exact HZ4.out.th143 HG.out (zep g n)) (by rw [sA_sz];exact zfK) (one_a g a) trivial ?_
 refine wpAnyH_done (by kernel_rfl) ?_ _
 refine Pl.cutE (λV=>∃ F:Fx,F.B=w.heap.size/\F.g=g/\(F.B<=F.mr/\F.B<=F.ar)/\Bd F V M Tk.zero/\Below w.heap.size w V) ?_ ?_
 ·obtain ⟨F,f1,f2,f3,f4⟩:=Bd.make (B:=w.heap.size) (n:=n) (a:=a) HO.out (by have:=HZ0.out;omega) (HO.out.room HF.out) HF.out (by rw [HG.out];exact (OP.put2 HZ4.out HG.out (zep g n) (zgZ g a) HW2.out).bx' HG.out) (OP.put2 HZ4.out HG.out (zep g n) (zgZ g a) HW2.out).old (by rw [HG.out];exact HE4.out.off HN.out) (by rw [HG.out];exact HN.out) (by rw [HG.out];exact zox HX.out HA.out) (by rw [HG.out];exact HA.out)
  exact ⟨F,f1,f2.trans HG.out,f3,f4,(OP.put2 HZ4.out HG.out (zep g n) (zgZ g a) HW2.out).low⟩
 rintro V ⟨F,hV1,hV2,hV0,hV3,hV4⟩
 have HV0:=hid hV0
 have HV1:=hid hV1
 have HV2:=hid hV2
 have HV3:=hid hV3
 have HV4:=hid hV4
 clear hV1 hV2 hV3 hV4 hV0
 go_wp2
 go_ret2
 exact ⟨F,HV1.out,by rw [HV2.out];rfl,HV0.out,HV3.out,HV4.out⟩
end Go.Proofs.YtbennamieealbaaGreatDoor
