/-
  Parts of a proof, joined.
-/
import Derived.Test.YtbennamieealbaaGreatDoorZc21
set_option linter.unusedVariables false
set_option maxRecDepth 100000
set_option maxHeartbeats 3200000
namespace Go.Proofs.YtbennamieealbaaGreatDoor
open Go.ChangeShapes Go.WideShapes Go.ChangeAt Go.RowKit
theorem zaJ (a1 a2:Option Addr) (n1 c1 n2 c2:Nat) (w:World) (h1:n1<=9223372036854775807) (h2:n2<=9223372036854775807) :
 Calls Tryz.prog 26 #[.slice a1 n1 c1,.slice a2 n2 c2] w λe w'=>e = .returned (.int .i64 (if n1<=1024/\n2<=1024 then 0 else 2))/\w=w':=by
 by_cases h:n1<=1024
 ·have h':¬ (1024:Int)<n1:=by omega
  by_cases k:n2<=1024
  ·have k':¬ (1024:Int)<n2:=by omega
   rw [if_pos ⟨h,k⟩]
   clear h k
   go_enter Tryz.func26,Tryz.ntmps26
   go_wp2
   go_ret
   exact ⟨rfl,rfl⟩
  ·have k':(1024:Int)<n2:=by omega
   rw [if_neg (λx=>k x.2)]
   clear h k
   go_enter Tryz.func26,Tryz.ntmps26
   go_wp2
   go_ret
   exact ⟨rfl,rfl⟩
 ·have h':(1024:Int)<n1:=by omega
  rw [if_neg (λx=>h x.1)]
  clear h
  go_enter Tryz.func26,Tryz.ntmps26
  go_wp2
  go_ret
  exact ⟨rfl,rfl⟩
theorem mcells {Y:World} {b:Nat} {M:Mach} {S:Sl} (h:Bx Y b (machL M S)):(∀ j,j<5->Y.cell? ⟨b,30+j,none⟩=some (S.get j))/\Y.cell? ⟨b,61,none⟩=some (.int .i64 M.b.l)/\Y.cell? ⟨b,62,none⟩=some (.int .i64 M.b.a)/\Y.cell? ⟨b,63,none⟩=some (.bool M.b.g)/\Y.cell? ⟨b,64,none⟩=some (.int .i64 M.b.f) /\
 Y.cell? ⟨b,72,none⟩=some (.int .i64 M.clock)/\Y.cell? ⟨b,73,none⟩=some (.int .i64 M.mready)/\Y.cell? ⟨b,74,none⟩=some (.int .i64 M.aready)/\b<Y.heap.size :=
 ⟨λj hj=>h.at _ _ (zjd M S j hj),h.at 61 _ rfl,h.at 62 _ rfl,h.at 63 _ rfl,h.at 64 _ rfl,h.at 72 _ rfl,h.at 73 _ rfl,h.at 74 _ rfl,h.z⟩
theorem mcells5 {Y:World} {b:Nat} {M:Mach} {S:Sl} {a0 a1 a2 a3 a4:Option Addr} {c0 c1 c2 c3 c4:Nat} (h:Bx Y b (machL M S)) (e0:S.get 0 = .slice a0 M.mrom.length c0) (e1:S.get 1 = .slice a1 M.arom.length c1) (e2:S.get 2 = .slice a2 M.ram.length c2) (e3:S.get 3 = .slice a3 M.own.length c3) (e4:S.get 4 = .slice a4 M.video.length c4) :
 Y.cell? ⟨b,30,none⟩=some (.slice a0 M.mrom.length c0)/\Y.cell? ⟨b,31,none⟩=some (.slice a1 M.arom.length c1)/\Y.cell? ⟨b,32,none⟩=some (.slice a2 M.ram.length c2)/\Y.cell? ⟨b,33,none⟩=some (.slice a3 M.own.length c3)/\Y.cell? ⟨b,34,none⟩=some (.slice a4 M.video.length c4):=by
 rw [<- e0,<- e1,<- e2,<- e3,<- e4]
 exact ⟨h.at 30 _ rfl,h.at 31 _ rfl,h.at 32 _ rfl,h.at 33 _ rfl,h.at 34 _ rfl⟩
theorem Sd.check (s:Sd) (w:World):Calls Tryz.prog 27 #[.agg (sndL s).toArray] w λe w'=>e = .returned (.int .i64 (if 0<=s.w/\s.w<=15 then 0 else 3))/\Below w.heap.size w w':=by
 by_cases h:0<=s.w/\s.w<=15
 ·rw [if_pos h];exact zc7 s w h
 ·rw [if_neg h];exact zls s w (by omega)
theorem Bem.check (b:Bem) (w:World):Calls Tryz.prog 28 #[.agg #[.int .i64 b.l,.int .i64 b.a,.bool b.g,.int .i64 b.f]] w λe w'=>e = .returned (.int .i64 (if bok b.l b.a b.f then 0 else 3))/\Below w.heap.size w w':=by
 cases h:bok b.l b.a b.f
 ·exact zcv b.l b.a b.f b.g w (λx=>by rw [(zax _ _ _).2 x] at h;cases h)
 ·exact zbg b.l b.a b.f b.g w ((zax _ _ _).1 h)
theorem zj2 (M:Mach) (S:Sl) (w:World) (hS:S.lens M) (hz:∀ j,j<5->(M.byt j).length<=9223372036854775807) (hr:¬ (M.mrom.length<=1024/\M.arom.length<=1024)) :
 Calls Tryz.prog 8 #[.agg (machL M S).toArray] w λe w'=>e = .returned (.int .i64 2)/\Below w.heap.size w w':=by
 obtain ⟨a0,c0,e0⟩:=hS 0 (by omega)
 obtain ⟨a1,c1,e1⟩:=hS 1 (by omega)
 obtain ⟨a2,c2,e2⟩:=hS 2 (by omega)
 obtain ⟨a3,c3,e3⟩:=hS 3 (by omega)
 obtain ⟨a4,c4,e4⟩:=hS 4 (by omega)
 have hm0:M.mrom.length<=9223372036854775807:=hz 0 (by omega)
 have hm1:M.arom.length<=9223372036854775807:=hz 1 (by omega)
 have hB:=Bx.new w (machL M S) 41 (b:=w.heap.size) rfl
 obtain ⟨d0,d1,d2,d3,d4⟩:=mcells5 hB e0 e1 e2 e3 e4
 obtain ⟨_,f0,f1,f2,f3,f4,f5,f6,f7⟩:=mcells hB
 have HB:=hid hB
 have HL:=hid (stA (st0 w) (.cells (machL M S).toArray 41))
 have HR:Hid ((if M.mrom.length<=1024/\M.arom.length<=1024 then (0:Int) else 2)=2):=hid (if_neg hr)
 clear hr
 clear hB hS hz e0 e1 e2 e3 e4
 go_enter Tryz.func8,Tryz.ntmps8
 go_wp2_with (first
  | (go_at_call 26;refine (zaJ _ _ _ _ _ _ _ hm0 hm1).mono ?_;rw [HR.out];rintro e w0 ⟨rfl,rfl⟩)
  | (refine wpList_load_mid rfl 36 _ rfl w.heap.size 45 rfl (sndL M.s) _ HB.out.sndR Tryz.underlying36 rfl zag ?_)
  | (go_at_call 27;refine (Sd.check M.s _).mono ?_;rw [HS.out];rintro e w1 ⟨rfl,hb1⟩;have HB1:=hid (HB.out.kept hb1);have HL1:=hid (stp HL.out hb1);obtain ⟨_,x0,x1,x2,x3,x4,x5,x6,x7⟩:=mcells HB1.out)
  | (go_at_call 28;refine (Bem.check M.b _).mono ?_;rw [HBM.out];rintro e w2 ⟨rfl,hb2⟩;have HB2:=hid (HB1.out.kept hb2);have HL2:=hid (stp HL1.out hb2);obtain ⟨_,y0,y1,y2,y3,y4,y5,y6,y7⟩:=mcells HB2.out)
  | (go_at_call 29;refine (zaG _ _ _).mono ?_;(first|rw [K1.out]|rw [K2.out]|rw [K3.out]);rintro e w0 ⟨rfl,rfl⟩))
 go_ret
 exact ⟨rfl,HL.out⟩
theorem zmj (M:Mach) (S:Sl) (w:World) (hS:S.lens M) (hz:∀ j,j<5->(M.byt j).length<=9223372036854775807) (hr:M.mrom.length<=1024/\M.arom.length<=1024) (hl:M.ram.length≠128) :
 Calls Tryz.prog 8 #[.agg (machL M S).toArray] w λe w'=>e = .returned (.int .i64 4)/\Below w.heap.size w w':=by
 obtain ⟨a0,c0,e0⟩:=hS 0 (by omega)
 obtain ⟨a1,c1,e1⟩:=hS 1 (by omega)
 obtain ⟨a2,c2,e2⟩:=hS 2 (by omega)
 obtain ⟨a3,c3,e3⟩:=hS 3 (by omega)
 obtain ⟨a4,c4,e4⟩:=hS 4 (by omega)
 have hm0:M.mrom.length<=9223372036854775807:=hz 0 (by omega)
 have hm1:M.arom.length<=9223372036854775807:=hz 1 (by omega)
 have hB:=Bx.new w (machL M S) 41 (b:=w.heap.size) rfl
 obtain ⟨d0,d1,d2,d3,d4⟩:=mcells5 hB e0 e1 e2 e3 e4
 obtain ⟨_,f0,f1,f2,f3,f4,f5,f6,f7⟩:=mcells hB
 have HB:=hid hB
 have HL:=hid (stA (st0 w) (.cells (machL M S).toArray 41))
 have HR:Hid ((if M.mrom.length<=1024/\M.arom.length<=1024 then (0:Int) else 2)=0):=hid (if_pos hr)
 have l2:¬ (M.ram.length:Int)=128:=by omega
 clear hr hl
 clear hB hS hz e0 e1 e2 e3 e4
 go_enter Tryz.func8,Tryz.ntmps8
 go_wp2_with (first
  | (go_at_call 26;refine (zaJ _ _ _ _ _ _ _ hm0 hm1).mono ?_;rw [HR.out];rintro e w0 ⟨rfl,rfl⟩)
  | (refine wpList_load_mid rfl 36 _ rfl w.heap.size 45 rfl (sndL M.s) _ HB.out.sndR Tryz.underlying36 rfl zag ?_)
  | (go_at_call 27;refine (Sd.check M.s _).mono ?_;rw [HS.out];rintro e w1 ⟨rfl,hb1⟩;have HB1:=hid (HB.out.kept hb1);have HL1:=hid (stp HL.out hb1);obtain ⟨_,x0,x1,x2,x3,x4,x5,x6,x7⟩:=mcells HB1.out)
  | (go_at_call 28;refine (Bem.check M.b _).mono ?_;rw [HBM.out];rintro e w2 ⟨rfl,hb2⟩;have HB2:=hid (HB1.out.kept hb2);have HL2:=hid (stp HL1.out hb2);obtain ⟨_,y0,y1,y2,y3,y4,y5,y6,y7⟩:=mcells HB2.out)
  | (go_at_call 29;refine (zaG _ _ _).mono ?_;(first|rw [K1.out]|rw [K2.out]|rw [K3.out]);rintro e w0 ⟨rfl,rfl⟩))
 go_ret
 exact ⟨rfl,HL.out⟩
theorem zmk (M:Mach) (S:Sl) (w:World) (hS:S.lens M) (hz:∀ j,j<5->(M.byt j).length<=9223372036854775807) (hr:M.mrom.length<=1024/\M.arom.length<=1024) (hl0:M.ram.length=128) (hl:M.own.length≠64) :
 Calls Tryz.prog 8 #[.agg (machL M S).toArray] w λe w'=>e = .returned (.int .i64 4)/\Below w.heap.size w w':=by
 obtain ⟨a0,c0,e0⟩:=hS 0 (by omega)
 obtain ⟨a1,c1,e1⟩:=hS 1 (by omega)
 obtain ⟨a2,c2,e2⟩:=hS 2 (by omega)
 obtain ⟨a3,c3,e3⟩:=hS 3 (by omega)
 obtain ⟨a4,c4,e4⟩:=hS 4 (by omega)
 have hm0:M.mrom.length<=9223372036854775807:=hz 0 (by omega)
 have hm1:M.arom.length<=9223372036854775807:=hz 1 (by omega)
 have hB:=Bx.new w (machL M S) 41 (b:=w.heap.size) rfl
 obtain ⟨d0,d1,d2,d3,d4⟩:=mcells5 hB e0 e1 e2 e3 e4
 obtain ⟨_,f0,f1,f2,f3,f4,f5,f6,f7⟩:=mcells hB
 have HB:=hid hB
 have HL:=hid (stA (st0 w) (.cells (machL M S).toArray 41))
 have HR:Hid ((if M.mrom.length<=1024/\M.arom.length<=1024 then (0:Int) else 2)=0):=hid (if_pos hr)
 rw [hl0] at d2
 have l2:¬ (M.own.length:Int)=64:=by omega
 clear hr hl hl0
 clear hB hS hz e0 e1 e2 e3 e4
 go_enter Tryz.func8,Tryz.ntmps8
 go_wp2_with (first
  | (go_at_call 26;refine (zaJ _ _ _ _ _ _ _ hm0 hm1).mono ?_;rw [HR.out];rintro e w0 ⟨rfl,rfl⟩)
  | (refine wpList_load_mid rfl 36 _ rfl w.heap.size 45 rfl (sndL M.s) _ HB.out.sndR Tryz.underlying36 rfl zag ?_)
  | (go_at_call 27;refine (Sd.check M.s _).mono ?_;rw [HS.out];rintro e w1 ⟨rfl,hb1⟩;have HB1:=hid (HB.out.kept hb1);have HL1:=hid (stp HL.out hb1);obtain ⟨_,x0,x1,x2,x3,x4,x5,x6,x7⟩:=mcells HB1.out)
  | (go_at_call 28;refine (Bem.check M.b _).mono ?_;rw [HBM.out];rintro e w2 ⟨rfl,hb2⟩;have HB2:=hid (HB1.out.kept hb2);have HL2:=hid (stp HL1.out hb2);obtain ⟨_,y0,y1,y2,y3,y4,y5,y6,y7⟩:=mcells HB2.out)
  | (go_at_call 29;refine (zaG _ _ _).mono ?_;(first|rw [K1.out]|rw [K2.out]|rw [K3.out]);rintro e w0 ⟨rfl,rfl⟩))
 go_ret
 exact ⟨rfl,HL.out⟩
theorem zit (M:Mach) (S:Sl) (w:World) (hS:S.lens M) (hz:∀ j,j<5->(M.byt j).length<=9223372036854775807) (hr:M.mrom.length<=1024/\M.arom.length<=1024) (hl0:M.ram.length=128) (hl1:M.own.length=64) (hl:M.video.length≠256) :
 Calls Tryz.prog 8 #[.agg (machL M S).toArray] w λe w'=>e = .returned (.int .i64 4)/\Below w.heap.size w w':=by
 obtain ⟨a0,c0,e0⟩:=hS 0 (by omega)
 obtain ⟨a1,c1,e1⟩:=hS 1 (by omega)
 obtain ⟨a2,c2,e2⟩:=hS 2 (by omega)
 obtain ⟨a3,c3,e3⟩:=hS 3 (by omega)
 obtain ⟨a4,c4,e4⟩:=hS 4 (by omega)
 have hm0:M.mrom.length<=9223372036854775807:=hz 0 (by omega)
 have hm1:M.arom.length<=9223372036854775807:=hz 1 (by omega)
 have hB:=Bx.new w (machL M S) 41 (b:=w.heap.size) rfl
 obtain ⟨d0,d1,d2,d3,d4⟩:=mcells5 hB e0 e1 e2 e3 e4
 obtain ⟨_,f0,f1,f2,f3,f4,f5,f6,f7⟩:=mcells hB
 have HB:=hid hB
 have HL:=hid (stA (st0 w) (.cells (machL M S).toArray 41))
 have HR:Hid ((if M.mrom.length<=1024/\M.arom.length<=1024 then (0:Int) else 2)=0):=hid (if_pos hr)
 rw [hl0] at d2
 rw [hl1] at d3
 have l2:¬ (M.video.length:Int)=256:=by omega
 clear hr hl hl0 hl1
 clear hB hS hz e0 e1 e2 e3 e4
 go_enter Tryz.func8,Tryz.ntmps8
 go_wp2_with (first
  | (go_at_call 26;refine (zaJ _ _ _ _ _ _ _ hm0 hm1).mono ?_;rw [HR.out];rintro e w0 ⟨rfl,rfl⟩)
  | (refine wpList_load_mid rfl 36 _ rfl w.heap.size 45 rfl (sndL M.s) _ HB.out.sndR Tryz.underlying36 rfl zag ?_)
  | (go_at_call 27;refine (Sd.check M.s _).mono ?_;rw [HS.out];rintro e w1 ⟨rfl,hb1⟩;have HB1:=hid (HB.out.kept hb1);have HL1:=hid (stp HL.out hb1);obtain ⟨_,x0,x1,x2,x3,x4,x5,x6,x7⟩:=mcells HB1.out)
  | (go_at_call 28;refine (Bem.check M.b _).mono ?_;rw [HBM.out];rintro e w2 ⟨rfl,hb2⟩;have HB2:=hid (HB1.out.kept hb2);have HL2:=hid (stp HL1.out hb2);obtain ⟨_,y0,y1,y2,y3,y4,y5,y6,y7⟩:=mcells HB2.out)
  | (go_at_call 29;refine (zaG _ _ _).mono ?_;(first|rw [K1.out]|rw [K2.out]|rw [K3.out]);rintro e w0 ⟨rfl,rfl⟩))
 go_ret
 exact ⟨rfl,HL.out⟩
theorem zj3 (M:Mach) (S:Sl) (w:World) (hS:S.lens M) (hz:∀ j,j<5->(M.byt j).length<=9223372036854775807) (hr:M.mrom.length<=1024/\M.arom.length<=1024) (hl:M.ram.length=128/\M.own.length=64/\M.video.length=256) (hw:¬ (0<=M.s.w/\M.s.w<=15)) :
 Calls Tryz.prog 8 #[.agg (machL M S).toArray] w λe w'=>e = .returned (.int .i64 3)/\Below w.heap.size w w':=by
 obtain ⟨a0,c0,e0⟩:=hS 0 (by omega)
 obtain ⟨a1,c1,e1⟩:=hS 1 (by omega)
 obtain ⟨a2,c2,e2⟩:=hS 2 (by omega)
 obtain ⟨a3,c3,e3⟩:=hS 3 (by omega)
 obtain ⟨a4,c4,e4⟩:=hS 4 (by omega)
 have hm0:M.mrom.length<=9223372036854775807:=hz 0 (by omega)
 have hm1:M.arom.length<=9223372036854775807:=hz 1 (by omega)
 have hB:=Bx.new w (machL M S) 41 (b:=w.heap.size) rfl
 obtain ⟨d0,d1,d2,d3,d4⟩:=mcells5 hB e0 e1 e2 e3 e4
 obtain ⟨_,f0,f1,f2,f3,f4,f5,f6,f7⟩:=mcells hB
 have HB:=hid hB
 have HL:=hid (stA (st0 w) (.cells (machL M S).toArray 41))
 have HR:Hid ((if M.mrom.length<=1024/\M.arom.length<=1024 then (0:Int) else 2)=0):=hid (if_pos hr)
 rw [hl.1] at d2
 rw [hl.2.1] at d3
 rw [hl.2.2] at d4
 have HS:Hid ((if 0<=M.s.w/\M.s.w<=15 then (0:Int) else 3)=3):=hid (if_neg hw)
 clear hr hl hw
 clear hB hS hz e0 e1 e2 e3 e4
 go_enter Tryz.func8,Tryz.ntmps8
 go_wp2_with (first
  | (go_at_call 26;refine (zaJ _ _ _ _ _ _ _ hm0 hm1).mono ?_;rw [HR.out];rintro e w0 ⟨rfl,rfl⟩)
  | (refine wpList_load_mid rfl 36 _ rfl w.heap.size 45 rfl (sndL M.s) _ HB.out.sndR Tryz.underlying36 rfl zag ?_)
  | (go_at_call 27;refine (Sd.check M.s _).mono ?_;rw [HS.out];rintro e w1 ⟨rfl,hb1⟩;have HB1:=hid (HB.out.kept hb1);have HL1:=hid (stp HL.out hb1);obtain ⟨_,x0,x1,x2,x3,x4,x5,x6,x7⟩:=mcells HB1.out)
  | (go_at_call 28;refine (Bem.check M.b _).mono ?_;rw [HBM.out];rintro e w2 ⟨rfl,hb2⟩;have HB2:=hid (HB1.out.kept hb2);have HL2:=hid (stp HL1.out hb2);obtain ⟨_,y0,y1,y2,y3,y4,y5,y6,y7⟩:=mcells HB2.out)
  | (go_at_call 29;refine (zaG _ _ _).mono ?_;(first|rw [K1.out]|rw [K2.out]|rw [K3.out]);rintro e w0 ⟨rfl,rfl⟩))
 go_ret
 exact ⟨rfl,HL1.out⟩
theorem zj4 (M:Mach) (S:Sl) (w:World) (hS:S.lens M) (hz:∀ j,j<5->(M.byt j).length<=9223372036854775807) (hr:M.mrom.length<=1024/\M.arom.length<=1024) (hl:M.ram.length=128/\M.own.length=64/\M.video.length=256) (hw:0<=M.s.w/\M.s.w<=15) (hb:bok M.b.l M.b.a M.b.f=false) :
 Calls Tryz.prog 8 #[.agg (machL M S).toArray] w λe w'=>e = .returned (.int .i64 3)/\Below w.heap.size w w':=by
 obtain ⟨a0,c0,e0⟩:=hS 0 (by omega)
 obtain ⟨a1,c1,e1⟩:=hS 1 (by omega)
 obtain ⟨a2,c2,e2⟩:=hS 2 (by omega)
 obtain ⟨a3,c3,e3⟩:=hS 3 (by omega)
 obtain ⟨a4,c4,e4⟩:=hS 4 (by omega)
 have hm0:M.mrom.length<=9223372036854775807:=hz 0 (by omega)
 have hm1:M.arom.length<=9223372036854775807:=hz 1 (by omega)
 have hB:=Bx.new w (machL M S) 41 (b:=w.heap.size) rfl
 obtain ⟨d0,d1,d2,d3,d4⟩:=mcells5 hB e0 e1 e2 e3 e4
 obtain ⟨_,f0,f1,f2,f3,f4,f5,f6,f7⟩:=mcells hB
 have HB:=hid hB
 have HL:=hid (stA (st0 w) (.cells (machL M S).toArray 41))
 have HR:Hid ((if M.mrom.length<=1024/\M.arom.length<=1024 then (0:Int) else 2)=0):=hid (if_pos hr)
 rw [hl.1] at d2
 rw [hl.2.1] at d3
 rw [hl.2.2] at d4
 have HS:Hid ((if 0<=M.s.w/\M.s.w<=15 then (0:Int) else 3)=0):=hid (if_pos hw)
 have HBM:Hid ((if bok M.b.l M.b.a M.b.f then (0:Int) else 3)=3):=hid (by rw [hb];rfl)
 clear hr hl hw hb
 clear hB hS hz e0 e1 e2 e3 e4
 go_enter Tryz.func8,Tryz.ntmps8
 go_wp2_with (first
  | (go_at_call 26;refine (zaJ _ _ _ _ _ _ _ hm0 hm1).mono ?_;rw [HR.out];rintro e w0 ⟨rfl,rfl⟩)
  | (refine wpList_load_mid rfl 36 _ rfl w.heap.size 45 rfl (sndL M.s) _ HB.out.sndR Tryz.underlying36 rfl zag ?_)
  | (go_at_call 27;refine (Sd.check M.s _).mono ?_;rw [HS.out];rintro e w1 ⟨rfl,hb1⟩;have HB1:=hid (HB.out.kept hb1);have HL1:=hid (stp HL.out hb1);obtain ⟨_,x0,x1,x2,x3,x4,x5,x6,x7⟩:=mcells HB1.out)
  | (go_at_call 28;refine (Bem.check M.b _).mono ?_;rw [HBM.out];rintro e w2 ⟨rfl,hb2⟩;have HB2:=hid (HB1.out.kept hb2);have HL2:=hid (stp HL1.out hb2);obtain ⟨_,y0,y1,y2,y3,y4,y5,y6,y7⟩:=mcells HB2.out)
  | (go_at_call 29;refine (zaG _ _ _).mono ?_;(first|rw [K1.out]|rw [K2.out]|rw [K3.out]);rintro e w0 ⟨rfl,rfl⟩))
 go_ret
 exact ⟨rfl,HL2.out⟩
theorem ziu (M:Mach) (S:Sl) (w:World) (hS:S.lens M) (hz:∀ j,j<5->(M.byt j).length<=9223372036854775807) (hr:M.mrom.length<=1024/\M.arom.length<=1024) (hl:M.ram.length=128/\M.own.length=64/\M.video.length=256) (hw:0<=M.s.w/\M.s.w<=15) (hb:bok M.b.l M.b.a M.b.f=true) (hc:¬ (0<=M.clock/\M.clock<=200000)) :
 Calls Tryz.prog 8 #[.agg (machL M S).toArray] w λe w'=>e = .returned (.int .i64 3)/\Below w.heap.size w w':=by
 obtain ⟨a0,c0,e0⟩:=hS 0 (by omega)
 obtain ⟨a1,c1,e1⟩:=hS 1 (by omega)
 obtain ⟨a2,c2,e2⟩:=hS 2 (by omega)
 obtain ⟨a3,c3,e3⟩:=hS 3 (by omega)
 obtain ⟨a4,c4,e4⟩:=hS 4 (by omega)
 have hm0:M.mrom.length<=9223372036854775807:=hz 0 (by omega)
 have hm1:M.arom.length<=9223372036854775807:=hz 1 (by omega)
 have hB:=Bx.new w (machL M S) 41 (b:=w.heap.size) rfl
 obtain ⟨d0,d1,d2,d3,d4⟩:=mcells5 hB e0 e1 e2 e3 e4
 obtain ⟨_,f0,f1,f2,f3,f4,f5,f6,f7⟩:=mcells hB
 have HB:=hid hB
 have HL:=hid (stA (st0 w) (.cells (machL M S).toArray 41))
 have HR:Hid ((if M.mrom.length<=1024/\M.arom.length<=1024 then (0:Int) else 2)=0):=hid (if_pos hr)
 rw [hl.1] at d2
 rw [hl.2.1] at d3
 rw [hl.2.2] at d4
 have HS:Hid ((if 0<=M.s.w/\M.s.w<=15 then (0:Int) else 3)=0):=hid (if_pos hw)
 have HBM:Hid ((if bok M.b.l M.b.a M.b.f then (0:Int) else 3)=0):=hid (by rw [hb];rfl)
 have K1:Hid (decide (0<=M.clock/\M.clock<=200000)=false):=hid (decide_eq_false hc)
 clear hr hl hw hb hc
 clear hB hS hz e0 e1 e2 e3 e4
 go_enter Tryz.func8,Tryz.ntmps8
 go_wp2_with (first
  | (go_at_call 26;refine (zaJ _ _ _ _ _ _ _ hm0 hm1).mono ?_;rw [HR.out];rintro e w0 ⟨rfl,rfl⟩)
  | (refine wpList_load_mid rfl 36 _ rfl w.heap.size 45 rfl (sndL M.s) _ HB.out.sndR Tryz.underlying36 rfl zag ?_)
  | (go_at_call 27;refine (Sd.check M.s _).mono ?_;rw [HS.out];rintro e w1 ⟨rfl,hb1⟩;have HB1:=hid (HB.out.kept hb1);have HL1:=hid (stp HL.out hb1);obtain ⟨_,x0,x1,x2,x3,x4,x5,x6,x7⟩:=mcells HB1.out)
  | (go_at_call 28;refine (Bem.check M.b _).mono ?_;rw [HBM.out];rintro e w2 ⟨rfl,hb2⟩;have HB2:=hid (HB1.out.kept hb2);have HL2:=hid (stp HL1.out hb2);obtain ⟨_,y0,y1,y2,y3,y4,y5,y6,y7⟩:=mcells HB2.out)
  | (go_at_call 29;refine (zaG _ _ _).mono ?_;(first|rw [K1.out]|rw [K2.out]|rw [K3.out]);rintro e w0 ⟨rfl,rfl⟩))
 go_ret
 exact ⟨rfl,HL2.out⟩
theorem zj5 (M:Mach) (S:Sl) (w:World) (hS:S.lens M) (hz:∀ j,j<5->(M.byt j).length<=9223372036854775807) (hr:M.mrom.length<=1024/\M.arom.length<=1024) (hl:M.ram.length=128/\M.own.length=64/\M.video.length=256) (hw:0<=M.s.w/\M.s.w<=15) (hb:bok M.b.l M.b.a M.b.f=true) (hc:0<=M.clock/\M.clock<=200000) (hm:¬ (0<=M.mready/\M.mready<=M.clock+20000)) :
 Calls Tryz.prog 8 #[.agg (machL M S).toArray] w λe w'=>e = .returned (.int .i64 3)/\Below w.heap.size w w':=by
 obtain ⟨a0,c0,e0⟩:=hS 0 (by omega)
 obtain ⟨a1,c1,e1⟩:=hS 1 (by omega)
 obtain ⟨a2,c2,e2⟩:=hS 2 (by omega)
 obtain ⟨a3,c3,e3⟩:=hS 3 (by omega)
 obtain ⟨a4,c4,e4⟩:=hS 4 (by omega)
 have hm0:M.mrom.length<=9223372036854775807:=hz 0 (by omega)
 have hm1:M.arom.length<=9223372036854775807:=hz 1 (by omega)
 have hB:=Bx.new w (machL M S) 41 (b:=w.heap.size) rfl
 obtain ⟨d0,d1,d2,d3,d4⟩:=mcells5 hB e0 e1 e2 e3 e4
 obtain ⟨_,f0,f1,f2,f3,f4,f5,f6,f7⟩:=mcells hB
 have HB:=hid hB
 have HL:=hid (stA (st0 w) (.cells (machL M S).toArray 41))
 have HR:Hid ((if M.mrom.length<=1024/\M.arom.length<=1024 then (0:Int) else 2)=0):=hid (if_pos hr)
 rw [hl.1] at d2
 rw [hl.2.1] at d3
 rw [hl.2.2] at d4
 have HS:Hid ((if 0<=M.s.w/\M.s.w<=15 then (0:Int) else 3)=0):=hid (if_pos hw)
 have HBM:Hid ((if bok M.b.l M.b.a M.b.f then (0:Int) else 3)=0):=hid (by rw [hb];rfl)
 have K1:Hid (decide (0<=M.clock/\M.clock<=200000)=true):=hid (decide_eq_true hc)
 have K2:Hid (decide (0<=M.mready/\M.mready<=M.clock+20000)=false):=hid (decide_eq_false hm)
 obtain ⟨hc0,hc1⟩:=hc
 clear hr hl hw hb hm
 clear hB hS hz e0 e1 e2 e3 e4
 go_enter Tryz.func8,Tryz.ntmps8
 go_wp2_with (first
  | (go_at_call 26;refine (zaJ _ _ _ _ _ _ _ hm0 hm1).mono ?_;rw [HR.out];rintro e w0 ⟨rfl,rfl⟩)
  | (refine wpList_load_mid rfl 36 _ rfl w.heap.size 45 rfl (sndL M.s) _ HB.out.sndR Tryz.underlying36 rfl zag ?_)
  | (go_at_call 27;refine (Sd.check M.s _).mono ?_;rw [HS.out];rintro e w1 ⟨rfl,hb1⟩;have HB1:=hid (HB.out.kept hb1);have HL1:=hid (stp HL.out hb1);obtain ⟨_,x0,x1,x2,x3,x4,x5,x6,x7⟩:=mcells HB1.out)
  | (go_at_call 28;refine (Bem.check M.b _).mono ?_;rw [HBM.out];rintro e w2 ⟨rfl,hb2⟩;have HB2:=hid (HB1.out.kept hb2);have HL2:=hid (stp HL1.out hb2);obtain ⟨_,y0,y1,y2,y3,y4,y5,y6,y7⟩:=mcells HB2.out)
  | (go_at_call 29;refine (zaG _ _ _).mono ?_;(first|rw [K1.out]|rw [K2.out]|rw [K3.out]);rintro e w0 ⟨rfl,rfl⟩))
 go_ret
 exact ⟨rfl,HL2.out⟩
theorem zml (M:Mach) (S:Sl) (w:World) (hS:S.lens M) (hz:∀ j,j<5->(M.byt j).length<=9223372036854775807) (hr:M.mrom.length<=1024/\M.arom.length<=1024) (hl:M.ram.length=128/\M.own.length=64/\M.video.length=256) (hw:0<=M.s.w/\M.s.w<=15) (hb:bok M.b.l M.b.a M.b.f=true) (hc:0<=M.clock/\M.clock<=200000) (hm:0<=M.mready/\M.mready<=M.clock+20000) (ha:¬ (0<=M.aready/\M.aready<=M.clock+20000)) :
 Calls Tryz.prog 8 #[.agg (machL M S).toArray] w λe w'=>e = .returned (.int .i64 3)/\Below w.heap.size w w':=by
 obtain ⟨a0,c0,e0⟩:=hS 0 (by omega)
 obtain ⟨a1,c1,e1⟩:=hS 1 (by omega)
 obtain ⟨a2,c2,e2⟩:=hS 2 (by omega)
 obtain ⟨a3,c3,e3⟩:=hS 3 (by omega)
 obtain ⟨a4,c4,e4⟩:=hS 4 (by omega)
 have hm0:M.mrom.length<=9223372036854775807:=hz 0 (by omega)
 have hm1:M.arom.length<=9223372036854775807:=hz 1 (by omega)
 have hB:=Bx.new w (machL M S) 41 (b:=w.heap.size) rfl
 obtain ⟨d0,d1,d2,d3,d4⟩:=mcells5 hB e0 e1 e2 e3 e4
 obtain ⟨_,f0,f1,f2,f3,f4,f5,f6,f7⟩:=mcells hB
 have HB:=hid hB
 have HL:=hid (stA (st0 w) (.cells (machL M S).toArray 41))
 have HR:Hid ((if M.mrom.length<=1024/\M.arom.length<=1024 then (0:Int) else 2)=0):=hid (if_pos hr)
 rw [hl.1] at d2
 rw [hl.2.1] at d3
 rw [hl.2.2] at d4
 have HS:Hid ((if 0<=M.s.w/\M.s.w<=15 then (0:Int) else 3)=0):=hid (if_pos hw)
 have HBM:Hid ((if bok M.b.l M.b.a M.b.f then (0:Int) else 3)=0):=hid (by rw [hb];rfl)
 have K1:Hid (decide (0<=M.clock/\M.clock<=200000)=true):=hid (decide_eq_true hc)
 have K2:Hid (decide (0<=M.mready/\M.mready<=M.clock+20000)=true):=hid (decide_eq_true hm)
 have K3:Hid (decide (0<=M.aready/\M.aready<=M.clock+20000)=false):=hid (decide_eq_false ha)
 obtain ⟨hc0,hc1⟩:=hc
 clear hr hl hw hb hm ha
 clear hB hS hz e0 e1 e2 e3 e4
 go_enter Tryz.func8,Tryz.ntmps8
 go_wp2_with (first
  | (go_at_call 26;refine (zaJ _ _ _ _ _ _ _ hm0 hm1).mono ?_;rw [HR.out];rintro e w0 ⟨rfl,rfl⟩)
  | (refine wpList_load_mid rfl 36 _ rfl w.heap.size 45 rfl (sndL M.s) _ HB.out.sndR Tryz.underlying36 rfl zag ?_)
  | (go_at_call 27;refine (Sd.check M.s _).mono ?_;rw [HS.out];rintro e w1 ⟨rfl,hb1⟩;have HB1:=hid (HB.out.kept hb1);have HL1:=hid (stp HL.out hb1);obtain ⟨_,x0,x1,x2,x3,x4,x5,x6,x7⟩:=mcells HB1.out)
  | (go_at_call 28;refine (Bem.check M.b _).mono ?_;rw [HBM.out];rintro e w2 ⟨rfl,hb2⟩;have HB2:=hid (HB1.out.kept hb2);have HL2:=hid (stp HL1.out hb2);obtain ⟨_,y0,y1,y2,y3,y4,y5,y6,y7⟩:=mcells HB2.out)
  | (go_at_call 29;refine (zaG _ _ _).mono ?_;(first|rw [K1.out]|rw [K2.out]|rw [K3.out]);rintro e w0 ⟨rfl,rfl⟩))
 go_ret
 exact ⟨rfl,HL2.out⟩
theorem zoA (M:Mach) (S:Sl) (w:World) (hS:S.lens M) (hz:∀ j,j<5->(M.byt j).length<=9223372036854775807) (hr:M.mrom.length<=1024/\M.arom.length<=1024) (hl:M.ram.length=128/\M.own.length=64/\M.video.length=256) (hw:0<=M.s.w/\M.s.w<=15) (hb:bok M.b.l M.b.a M.b.f=true) (hc:0<=M.clock/\M.clock<=200000) (hm:0<=M.mready/\M.mready<=M.clock+20000) (ha:0<=M.aready/\M.aready<=M.clock+20000) :
 Calls Tryz.prog 8 #[.agg (machL M S).toArray] w λe w'=>e = .returned (.int .i64 0)/\Below w.heap.size w w':=by
 obtain ⟨a0,c0,e0⟩:=hS 0 (by omega)
 obtain ⟨a1,c1,e1⟩:=hS 1 (by omega)
 obtain ⟨a2,c2,e2⟩:=hS 2 (by omega)
 obtain ⟨a3,c3,e3⟩:=hS 3 (by omega)
 obtain ⟨a4,c4,e4⟩:=hS 4 (by omega)
 have hm0:M.mrom.length<=9223372036854775807:=hz 0 (by omega)
 have hm1:M.arom.length<=9223372036854775807:=hz 1 (by omega)
 have hB:=Bx.new w (machL M S) 41 (b:=w.heap.size) rfl
 obtain ⟨d0,d1,d2,d3,d4⟩:=mcells5 hB e0 e1 e2 e3 e4
 obtain ⟨_,f0,f1,f2,f3,f4,f5,f6,f7⟩:=mcells hB
 have HB:=hid hB
 have HL:=hid (stA (st0 w) (.cells (machL M S).toArray 41))
 have HR:Hid ((if M.mrom.length<=1024/\M.arom.length<=1024 then (0:Int) else 2)=0):=hid (if_pos hr)
 rw [hl.1] at d2
 rw [hl.2.1] at d3
 rw [hl.2.2] at d4
 have HS:Hid ((if 0<=M.s.w/\M.s.w<=15 then (0:Int) else 3)=0):=hid (if_pos hw)
 have HBM:Hid ((if bok M.b.l M.b.a M.b.f then (0:Int) else 3)=0):=hid (by rw [hb];rfl)
 have K1:Hid (decide (0<=M.clock/\M.clock<=200000)=true):=hid (decide_eq_true hc)
 have K2:Hid (decide (0<=M.mready/\M.mready<=M.clock+20000)=true):=hid (decide_eq_true hm)
 have K3:Hid (decide (0<=M.aready/\M.aready<=M.clock+20000)=true):=hid (decide_eq_true ha)
 obtain ⟨hc0,hc1⟩:=hc
 clear hr hl hw hb hm ha
 clear hB hS hz e0 e1 e2 e3 e4
 go_enter Tryz.func8,Tryz.ntmps8
 go_wp2_with (first
  | (go_at_call 26;refine (zaJ _ _ _ _ _ _ _ hm0 hm1).mono ?_;rw [HR.out];rintro e w0 ⟨rfl,rfl⟩)
  | (refine wpList_load_mid rfl 36 _ rfl w.heap.size 45 rfl (sndL M.s) _ HB.out.sndR Tryz.underlying36 rfl zag ?_)
  | (go_at_call 27;refine (Sd.check M.s _).mono ?_;rw [HS.out];rintro e w1 ⟨rfl,hb1⟩;have HB1:=hid (HB.out.kept hb1);have HL1:=hid (stp HL.out hb1);obtain ⟨_,x0,x1,x2,x3,x4,x5,x6,x7⟩:=mcells HB1.out)
  | (go_at_call 28;refine (Bem.check M.b _).mono ?_;rw [HBM.out];rintro e w2 ⟨rfl,hb2⟩;have HB2:=hid (HB1.out.kept hb2);have HL2:=hid (stp HL1.out hb2);obtain ⟨_,y0,y1,y2,y3,y4,y5,y6,y7⟩:=mcells HB2.out)
  | (go_at_call 29;refine (zaG _ _ _).mono ?_;(first|rw [K1.out]|rw [K2.out]|rw [K3.out]);rintro e w0 ⟨rfl,rfl⟩))
 go_ret
 exact ⟨rfl,HL2.out⟩
theorem za6 (M:Mach) (S:Sl) (w:World) (hS:S.lens M) (hz:∀ j,j<5->(M.byt j).length<=9223372036854775807) :
 Calls Tryz.prog 8 #[.agg (machL M S).toArray] w λe w'=>e = .returned (.int .i64 M.chk)/\Below w.heap.size w w':=by
 unfold Mach.chk
 by_cases hr:M.mrom.length<=1024/\M.arom.length<=1024
 ·rw [if_pos hr]
  by_cases hl:M.ram.length=128/\M.own.length=64/\M.video.length=256
  ·rw [if_pos hl]
   by_cases hw:0<=M.s.w/\M.s.w<=15
   ·rw [if_pos hw]
    cases hb:bok M.b.l M.b.a M.b.f
    ·exact zj4 M S w hS hz hr hl hw hb
    ·rw [if_pos rfl]
     by_cases hc:0<=M.clock/\M.clock<=200000
     ·by_cases hm:0<=M.mready/\M.mready<=M.clock+20000
      ·by_cases ha:0<=M.aready/\M.aready<=M.clock+20000
       ·rw [if_pos ⟨hc,hm,ha⟩];exact zoA M S w hS hz hr hl hw hb hc hm ha
       ·rw [if_neg (λx=>ha x.2.2)];exact zml M S w hS hz hr hl hw hb hc hm ha
      ·rw [if_neg (λx=>hm x.2.1)];exact zj5 M S w hS hz hr hl hw hb hc hm
     ·rw [if_neg (λx=>hc x.1)];exact ziu M S w hS hz hr hl hw hb hc
   ·rw [if_neg hw];exact zj3 M S w hS hz hr hl hw
  ·rw [if_neg hl]
   by_cases h1:M.ram.length=128
   ·by_cases h2:M.own.length=64
    ·exact zit M S w hS hz hr h1 h2 (λh3=>hl ⟨h1,h2,h3⟩)
    ·exact zmk M S w hS hz hr h1 h2
   ·exact zmj M S w hS hz hr h1
 ·rw [if_neg hr];exact zj2 M S w hS hz hr
end Go.Proofs.YtbennamieealbaaGreatDoor
