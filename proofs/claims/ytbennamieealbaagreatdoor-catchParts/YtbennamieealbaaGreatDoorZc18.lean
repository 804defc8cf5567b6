/-
  Parts of a proof, joined.
-/
import Derived.Test.YtbennamieealbaaGreatDoorZc14
import Derived.ChangeKeysEq
import Derived.Deep.DeepCutAuto
set_option linter.unusedVariables false
set_option maxRecDepth 100000
set_option maxHeartbeats 6400000
namespace Go.Proofs.YtbennamieealbaaGreatDoor
open Go.ChangeShapes Go.WideShapes Go.ChangeAt Go.RowKit
theorem zgk {s x:Sd} {k mN:Nat} {L:List UInt8} {m:Int} (hx:s.ticks k=x) (hL:sms s k=L) (hf:x.fit) (e:(mN:Int)=m) (h1:1<=m) (h2:m<=wt x):s.ticks (k+mN)=⟨x.a.later m,x.b.later m,x.c.later m,wt x-m⟩/\sms s (k+mN)=L++one x:=by
 subst e hx hL
 rw [<- Sd.ticks_add,zdP,<- Sd.go_ticks hf mN (by omega) h2,(Sd.near hf mN (by omega) h2).2]
 exact ⟨rfl,rfl⟩
theorem Sd.fit.k {s:Sd} (h:s.fit):s.ok:=⟨h.a,h.b,h.c⟩
theorem SmW.all {w W:World} {x:Sd} {l:List UInt8} {v:Value} (h:SmW w x l v W):W.cell? ⟨w.heap.size,0,none⟩=some (.int .u16 x.a.p)/\W.cell? ⟨w.heap.size,1,none⟩=some (.int .u16 x.a.c)/\W.cell? ⟨w.heap.size,2,none⟩=some (.int .u8 x.a.l)/\W.cell? ⟨w.heap.size,3,none⟩=some (.bool x.a.h)/\W.cell? ⟨w.heap.size,4,none⟩=some (.int .u16 x.a.n)/\W.cell? ⟨w.heap.size,5,none⟩=some (.int .u16 x.b.p)/\W.cell? ⟨w.heap.size,6,none⟩=some (.int .u16 x.b.c)/\W.cell? ⟨w.heap.size,7,none⟩=some (.int .u8 x.b.l)/\W.cell? ⟨w.heap.size,8,none⟩=some (.bool x.b.h)/\W.cell? ⟨w.heap.size,9,none⟩=some (.int .u16 x.b.n)/\W.cell? ⟨w.heap.size,10,none⟩=some (.int .u16 x.c.p)/\W.cell? ⟨w.heap.size,11,none⟩=some (.int .u16 x.c.c)/\W.cell? ⟨w.heap.size,12,none⟩=some (.int .u8 x.c.l)/\W.cell? ⟨w.heap.size,13,none⟩=some (.bool x.c.h)/\W.cell? ⟨w.heap.size,14,none⟩=some (.int .u16 x.c.n)/\W.cell? ⟨w.heap.size,15,none⟩=some (.int .i64 x.w) :=
 ⟨h.b.at 0 _ rfl,h.b.at 1 _ rfl,h.b.at 2 _ rfl,h.b.at 3 _ rfl,h.b.at 4 _ rfl,h.b.at 5 _ rfl,h.b.at 6 _ rfl,h.b.at 7 _ rfl,h.b.at 8 _ rfl,h.b.at 9 _ rfl,h.b.at 10 _ rfl,h.b.at 11 _ rfl,h.b.at 12 _ rfl,h.b.at 13 _ rfl,h.b.at 14 _ rfl,h.b.at 15 _ rfl⟩
theorem SmW.allr {w W:World} {x:Sd} {l:List UInt8} {v:Value} (h:SmW w x l v W):W.cell? ⟨w.heap.size+1,0,none⟩=some (.int .u16 0)/\W.cell? ⟨w.heap.size+1,1,none⟩=some (.int .u16 0)/\W.cell? ⟨w.heap.size+1,2,none⟩=some (.int .u8 0)/\W.cell? ⟨w.heap.size+1,3,none⟩=some (.bool false)/\W.cell? ⟨w.heap.size+1,4,none⟩=some (.int .u16 0)/\W.cell? ⟨w.heap.size+1,5,none⟩=some (.int .u16 0)/\W.cell? ⟨w.heap.size+1,6,none⟩=some (.int .u16 0)/\W.cell? ⟨w.heap.size+1,7,none⟩=some (.int .u8 0)/\W.cell? ⟨w.heap.size+1,8,none⟩=some (.bool false)/\W.cell? ⟨w.heap.size+1,9,none⟩=some (.int .u16 0)/\W.cell? ⟨w.heap.size+1,10,none⟩=some (.int .u16 0)/\W.cell? ⟨w.heap.size+1,11,none⟩=some (.int .u16 0)/\W.cell? ⟨w.heap.size+1,12,none⟩=some (.int .u8 0)/\W.cell? ⟨w.heap.size+1,13,none⟩=some (.bool false)/\W.cell? ⟨w.heap.size+1,14,none⟩=some (.int .u16 0)/\W.cell? ⟨w.heap.size+1,15,none⟩=some (.int .i64 0) :=
 ⟨h.r.at 0 _ rfl,h.r.at 1 _ rfl,h.r.at 2 _ rfl,h.r.at 3 _ rfl,h.r.at 4 _ rfl,h.r.at 5 _ rfl,h.r.at 6 _ rfl,h.r.at 7 _ rfl,h.r.at 8 _ rfl,h.r.at 9 _ rfl,h.r.at 10 _ rfl,h.r.at 11 _ rfl,h.r.at 12 _ rfl,h.r.at 13 _ rfl,h.r.at 14 _ rfl,h.r.at 15 _ rfl⟩
theorem SmW.alls {w W:World} {x:Sd} {l:List UInt8} {v:Value} (h:SmW w x l v W) (y:Sd):(W.setCells (w.heap.size+1) 0 (scs y)).cell? ⟨w.heap.size,0,none⟩=some (.int .u16 x.a.p)/\(W.setCells (w.heap.size+1) 0 (scs y)).cell? ⟨w.heap.size,1,none⟩=some (.int .u16 x.a.c)/\(W.setCells (w.heap.size+1) 0 (scs y)).cell? ⟨w.heap.size,2,none⟩=some (.int .u8 x.a.l)/\(W.setCells (w.heap.size+1) 0 (scs y)).cell? ⟨w.heap.size,3,none⟩=some (.bool x.a.h)/\(W.setCells (w.heap.size+1) 0 (scs y)).cell? ⟨w.heap.size,4,none⟩=some (.int .u16 x.a.n)/\(W.setCells (w.heap.size+1) 0 (scs y)).cell? ⟨w.heap.size,5,none⟩=some (.int .u16 x.b.p)/\(W.setCells (w.heap.size+1) 0 (scs y)).cell? ⟨w.heap.size,6,none⟩=some (.int .u16 x.b.c)/\(W.setCells (w.heap.size+1) 0 (scs y)).cell? ⟨w.heap.size,7,none⟩=some (.int .u8 x.b.l)/\(W.setCells (w.heap.size+1) 0 (scs y)).cell? ⟨w.heap.size,8,none⟩=some (.bool x.b.h)/\(W.setCells (w.heap.size+1) 0 (scs y)).cell? ⟨w.heap.size,9,none⟩=some (.int .u16 x.b.n)/\(W.setCells (w.heap.size+1) 0 (scs y)).cell? ⟨w.heap.size,10,none⟩=some (.int .u16 x.c.p)/\(W.setCells (w.heap.size+1) 0 (scs y)).cell? ⟨w.heap.size,11,none⟩=some (.int .u16 x.c.c)/\(W.setCells (w.heap.size+1) 0 (scs y)).cell? ⟨w.heap.size,12,none⟩=some (.int .u8 x.c.l)/\(W.setCells (w.heap.size+1) 0 (scs y)).cell? ⟨w.heap.size,13,none⟩=some (.bool x.c.h)/\(W.setCells (w.heap.size+1) 0 (scs y)).cell? ⟨w.heap.size,14,none⟩=some (.int .u16 x.c.n)/\(W.setCells (w.heap.size+1) 0 (scs y)).cell? ⟨w.heap.size,15,none⟩=some (.int .i64 x.w) :=
 ⟨(h.b.fars (b':=w.heap.size+1) (by omega) 0 (scs y)).at 0 _ rfl,(h.b.fars (b':=w.heap.size+1) (by omega) 0 (scs y)).at 1 _ rfl,(h.b.fars (b':=w.heap.size+1) (by omega) 0 (scs y)).at 2 _ rfl,(h.b.fars (b':=w.heap.size+1) (by omega) 0 (scs y)).at 3 _ rfl,(h.b.fars (b':=w.heap.size+1) (by omega) 0 (scs y)).at 4 _ rfl,(h.b.fars (b':=w.heap.size+1) (by omega) 0 (scs y)).at 5 _ rfl,(h.b.fars (b':=w.heap.size+1) (by omega) 0 (scs y)).at 6 _ rfl,(h.b.fars (b':=w.heap.size+1) (by omega) 0 (scs y)).at 7 _ rfl,(h.b.fars (b':=w.heap.size+1) (by omega) 0 (scs y)).at 8 _ rfl,(h.b.fars (b':=w.heap.size+1) (by omega) 0 (scs y)).at 9 _ rfl,(h.b.fars (b':=w.heap.size+1) (by omega) 0 (scs y)).at 10 _ rfl,(h.b.fars (b':=w.heap.size+1) (by omega) 0 (scs y)).at 11 _ rfl,(h.b.fars (b':=w.heap.size+1) (by omega) 0 (scs y)).at 12 _ rfl,(h.b.fars (b':=w.heap.size+1) (by omega) 0 (scs y)).at 13 _ rfl,(h.b.fars (b':=w.heap.size+1) (by omega) 0 (scs y)).at 14 _ rfl,(h.b.fars (b':=w.heap.size+1) (by omega) 0 (scs y)).at 15 _ rfl⟩
theorem SmW.drew {w W:World} {x:Sd} {l:List UInt8} {v:Value} (h:SmW w x l v W):SmW w x l v W.drew:=⟨h.low.drew,h.b.drew,h.r.drew,zi7 h.o (st0 W).drew⟩
theorem SmW.alls' {w W:World} {x:Sd} {l:List UInt8} {v:Value} (h:SmW w x l v W) (y:Sd):(W.setCells (w.heap.size+1) 0 (scs y)).drew.cell? ⟨w.heap.size,0,none⟩=some (.int .u16 x.a.p)/\(W.setCells (w.heap.size+1) 0 (scs y)).drew.cell? ⟨w.heap.size,1,none⟩=some (.int .u16 x.a.c)/\(W.setCells (w.heap.size+1) 0 (scs y)).drew.cell? ⟨w.heap.size,2,none⟩=some (.int .u8 x.a.l)/\(W.setCells (w.heap.size+1) 0 (scs y)).drew.cell? ⟨w.heap.size,3,none⟩=some (.bool x.a.h)/\(W.setCells (w.heap.size+1) 0 (scs y)).drew.cell? ⟨w.heap.size,4,none⟩=some (.int .u16 x.a.n)/\(W.setCells (w.heap.size+1) 0 (scs y)).drew.cell? ⟨w.heap.size,5,none⟩=some (.int .u16 x.b.p)/\(W.setCells (w.heap.size+1) 0 (scs y)).drew.cell? ⟨w.heap.size,6,none⟩=some (.int .u16 x.b.c)/\(W.setCells (w.heap.size+1) 0 (scs y)).drew.cell? ⟨w.heap.size,7,none⟩=some (.int .u8 x.b.l)/\(W.setCells (w.heap.size+1) 0 (scs y)).drew.cell? ⟨w.heap.size,8,none⟩=some (.bool x.b.h)/\(W.setCells (w.heap.size+1) 0 (scs y)).drew.cell? ⟨w.heap.size,9,none⟩=some (.int .u16 x.b.n)/\(W.setCells (w.heap.size+1) 0 (scs y)).drew.cell? ⟨w.heap.size,10,none⟩=some (.int .u16 x.c.p)/\(W.setCells (w.heap.size+1) 0 (scs y)).drew.cell? ⟨w.heap.size,11,none⟩=some (.int .u16 x.c.c)/\(W.setCells (w.heap.size+1) 0 (scs y)).drew.cell? ⟨w.heap.size,12,none⟩=some (.int .u8 x.c.l)/\(W.setCells (w.heap.size+1) 0 (scs y)).drew.cell? ⟨w.heap.size,13,none⟩=some (.bool x.c.h)/\(W.setCells (w.heap.size+1) 0 (scs y)).drew.cell? ⟨w.heap.size,14,none⟩=some (.int .u16 x.c.n)/\(W.setCells (w.heap.size+1) 0 (scs y)).drew.cell? ⟨w.heap.size,15,none⟩=some (.int .i64 x.w) :=
 ⟨(h.b.fars (b':=w.heap.size+1) (by omega) 0 (scs y)).drew.at 0 _ rfl,(h.b.fars (b':=w.heap.size+1) (by omega) 0 (scs y)).drew.at 1 _ rfl,(h.b.fars (b':=w.heap.size+1) (by omega) 0 (scs y)).drew.at 2 _ rfl,(h.b.fars (b':=w.heap.size+1) (by omega) 0 (scs y)).drew.at 3 _ rfl,(h.b.fars (b':=w.heap.size+1) (by omega) 0 (scs y)).drew.at 4 _ rfl,(h.b.fars (b':=w.heap.size+1) (by omega) 0 (scs y)).drew.at 5 _ rfl,(h.b.fars (b':=w.heap.size+1) (by omega) 0 (scs y)).drew.at 6 _ rfl,(h.b.fars (b':=w.heap.size+1) (by omega) 0 (scs y)).drew.at 7 _ rfl,(h.b.fars (b':=w.heap.size+1) (by omega) 0 (scs y)).drew.at 8 _ rfl,(h.b.fars (b':=w.heap.size+1) (by omega) 0 (scs y)).drew.at 9 _ rfl,(h.b.fars (b':=w.heap.size+1) (by omega) 0 (scs y)).drew.at 10 _ rfl,(h.b.fars (b':=w.heap.size+1) (by omega) 0 (scs y)).drew.at 11 _ rfl,(h.b.fars (b':=w.heap.size+1) (by omega) 0 (scs y)).drew.at 12 _ rfl,(h.b.fars (b':=w.heap.size+1) (by omega) 0 (scs y)).drew.at 13 _ rfl,(h.b.fars (b':=w.heap.size+1) (by omega) 0 (scs y)).drew.at 14 _ rfl,(h.b.fars (b':=w.heap.size+1) (by omega) 0 (scs y)).drew.at 15 _ rfl⟩
theorem nest16 (W:World) (b:Nat) (x:Sd):((((((((((((((((W.setCell ⟨b,0,none⟩ (.int .u16 x.a.p)).setCell ⟨b,1,none⟩ (.int .u16 x.a.c)).setCell ⟨b,2,none⟩ (.int .u8 x.a.l)).setCell ⟨b,3,none⟩ (.bool x.a.h)).setCell ⟨b,4,none⟩ (.int .u16 x.a.n)).setCell ⟨b,5,none⟩ (.int .u16 x.b.p)).setCell ⟨b,6,none⟩ (.int .u16 x.b.c)).setCell ⟨b,7,none⟩ (.int .u8 x.b.l)).setCell ⟨b,8,none⟩ (.bool x.b.h)).setCell ⟨b,9,none⟩ (.int .u16 x.b.n)).setCell ⟨b,10,none⟩ (.int .u16 x.c.p)).setCell ⟨b,11,none⟩ (.int .u16 x.c.c)).setCell ⟨b,12,none⟩ (.int .u8 x.c.l)).setCell ⟨b,13,none⟩ (.bool x.c.h)).setCell ⟨b,14,none⟩ (.int .u16 x.c.n)).setCell ⟨b,15,none⟩ (.int .i64 x.w))=W.setCells b 0 (scs x):=rfl
theorem sliceAt.drew {W:World} {v:Value} {l:List UInt8} (h:sliceAt W v l):sliceAt W.drew v l:=h
theorem zfa (s:Sd) (N:Nat) (w:World) (h:s.fit) (hn:N<=20000) :
 Calls Tryz.prog 65 #[(.agg #[.int .u16 s.a.p,.int .u16 s.a.c,.int .u8 s.a.l,.bool s.a.h,.int .u16 s.a.n,.int .u16 s.b.p,.int .u16 s.b.c,.int .u8 s.b.l,.bool s.b.h,.int .u16 s.b.n,.int .u16 s.c.p,.int .u16 s.c.c,.int .u8 s.c.l,.bool s.c.h,.int .u16 s.c.n,.int .i64 s.w]),.int .i64 N] w λe w'=>∃ v,e = .returned (.tuple #[v,(.agg #[.int .u16 (s.ticks N).a.p,.int .u16 (s.ticks N).a.c,.int .u8 (s.ticks N).a.l,.bool (s.ticks N).a.h,.int .u16 (s.ticks N).a.n,.int .u16 (s.ticks N).b.p,.int .u16 (s.ticks N).b.c,.int .u8 (s.ticks N).b.l,.bool (s.ticks N).b.h,.int .u16 (s.ticks N).b.n,.int .u16 (s.ticks N).c.p,.int .u16 (s.ticks N).c.c,.int .u8 (s.ticks N).c.l,.bool (s.ticks N).c.h,.int .u16 (s.ticks N).c.n,.int .i64 (s.ticks N).w]),.int .i64 0])/\sliceAt w' v (sms s N)/\Below w.heap.size w w':=by
 have hm:=zlr N
 rw [decide_eq_true (show 0<=(N:Int)/\(N:Int)<=20000 by omega)] at hm
 have i0:=v3_0
 have i1:=v3_1
 have i2:=v3_2
 go_enter Tryz.func65,Tryz.ntmps65
 go_wp2_with (first
  | (go_at_call 27;refine (zc7 s _ h.w).mono ?_;rintro e w0 ⟨rfl,hb0⟩)
  | (go_at_call 116;refine (hm _).mono ?_;rintro e w9 ⟨rfl,rfl⟩))
 have HS0:Hid (SmW w s [] (.slice none 0 0) w0):=(⟨stA (stA (st0 w) _) _,(Bx.new w (scs s) _ rfl).over _,Bx.new _ zs _ (by simp),⟨rfl,Or.inl ⟨rfl,rfl⟩⟩⟩:SmW w s [] (.slice none 0 0) _).kept hb0
 clear hb0 hm
 go_loopw [1,4] (λn v wr=>∃ k:Nat,k<=N/\n = .int .i64 (N-k:Int)/\SmW w (s.ticks k) (sms s k) v wr) (λn _ _=>(intOf n).toNat)
 case atStart=>exact ⟨0,Nat.zero_le _,by simp,HS0.out⟩
 case round =>
  clear HS0
  obtain ⟨k,hk,rfl,hA⟩:=hrel
  have HF:=hid (Sd.ticks_fit h k)
  have HL:=hid (zgd s k)
  by_cases h8:k<N
  ·have h8':(0:Int)<(N:Int)-k:=by omega
   have hwt:=wt_bd HF.out
   obtain ⟨m,hm0⟩:∃ m:Int,m=min ((N:Int)-k) (wt (s.ticks k)):=⟨_,rfl⟩
   have hmm:0<=m/\m<=20000:=by omega
   have hm1:1<=m:=by omega
   have hm2:m<=wt (s.ticks k):=by omega
   have hm3:m<=(N:Int)-k:=by omega
   generalize hx:s.ticks k=x at *
   generalize hL:sms s k=L at *
   have HX:=hid hx
   have HLL:=hid hL
   clear hx hL
   have HA:=hid hA
   obtain ⟨c0,c1,c2,c3,c4,c5,c6,c7,c8,c9,c10,c11,c12,c13,c14,c15⟩:=hA.all
   have tz:=hA.b.z
   have tf:=hA.b.f
   have l3:=load3 hA.b
   clear hA
   by_cases hz:x.w=0
   ·-- a sample
    have hwt0:wt x=16:=by unfold wt;rw [if_pos hz]
    have hone:one x=[sm x]:=by unfold one;rw [if_pos hz]
    have HO:=hid hone
    have HW0:=hid hwt0
    rw [hwt0] at hm0
    have HM0:=hid hm0
    have hsm:=(zpy x).symm
    have HLB:Hid (L.length<=50000):=by have:=HL.out;exact Nat.le_trans this (by omega)
    have HSM:=hid hsm
    have HZ:=hid hz
    clear hone hwt0 hsm hm0
    rw [hz] at c15
    clear hz
    go_wp2_with (first
     | (go_at_call 117;refine (ze6 x _ HF.out.k).mono ?_;rintro e w3 ⟨rfl,hb3⟩;have HA3:=hid (HA.out.kept hb3);have own3:=hid (HA3.out.over (.cells #[.int .u8 (smI x)] 5)))
     | (at_builtin;refine app1 (by rfl) _ _ (by rfl) (w.heap.size+2) _ L (by rfl) own3.out.o w3.heap.size 1 (sm x) (smI x) (by rfl) (Pl.new _ _ _ _ rfl) HSM.out HLB.out own3.out.r.z ?_;intro v' w' hown' hb';have HA4:=hid (own3.out.app hb' hown');obtain ⟨c0,c1,c2,c3,c4,c5,c6,c7,c8,c9,c10,c11,c12,c13,c14,c15⟩:=HA4.out.all;have tz:=HA4.out.b.z;have tf:=HA4.out.b.f;have l3':=load3 (HA4.out.wait 16).b))
    rw [<- HM0.out]
    go_loopw [39] (λi wr=>(i = .int .i64 0/\SmW w ⟨x.a,x.b,x.c,wt x⟩ (L++one x) v' wr) \/ (i = .int .i64 1/\SmW w ⟨x.a.later m,x.b,x.c,wt x⟩ (L++one x) v' wr) \/ (i = .int .i64 2/\SmW w ⟨x.a.later m,x.b.later m,x.c,wt x⟩ (L++one x) v' wr) \/ (i = .int .i64 3/\SmW w ⟨x.a.later m,x.b.later m,x.c.later m,wt x⟩ (L++one x) v' wr)) (λi _=>3-(intOf i).toNat)
    case atStart=>exact Or.inl ⟨rfl,by rw [HO.out,HW0.out];exact HA4.out.wait 16⟩
    case round =>
     clear HA HA3 HA4 own3 l3 l3' c0 c1 c2 c3 c4 c5 c6 c7 c8 c9 c10 c11 c12 c13 c14 c15 tz tf hown' hb' hb3
     rcases hrel with ⟨rfl,hS⟩|⟨rfl,hS⟩|⟨rfl,hS⟩|⟨rfl,hS⟩
     ·obtain ⟨c0,c1,c2,c3,c4,c5,c6,c7,c8,c9,c10,c11,c12,c13,c14,c15⟩:=hS.all
      have tz:=hS.b.z
      have tf:=hS.b.f
      have HS:=hid hS
      clear hS
      go_wp2_with (go_at_call 118;refine (latV x.a m _ HF.out.a hmm).mono ?_;rintro e w5 ⟨rfl,hb5⟩;have HS5:=hid ((HS.out.over _).kept hb5);obtain ⟨c0,c1,c2,c3,c4,c5,c6,c7,c8,c9,c10,c11,c12,c13,c14,c15⟩:=HS5.out.all;have tz:=HS5.out.b.z;have tf:=HS5.out.b.f)
      exact ⟨Or.inr (Or.inl ⟨rfl,HS5.out.v0 _⟩),by decide⟩
     ·obtain ⟨c0,c1,c2,c3,c4,c5,c6,c7,c8,c9,c10,c11,c12,c13,c14,c15⟩:=hS.all
      have tz:=hS.b.z
      have tf:=hS.b.f
      have HS:=hid hS
      clear hS
      go_wp2_with (go_at_call 118;refine (latV x.b m _ HF.out.b hmm).mono ?_;rintro e w5 ⟨rfl,hb5⟩;have HS5:=hid ((HS.out.over _).kept hb5);obtain ⟨c0,c1,c2,c3,c4,c5,c6,c7,c8,c9,c10,c11,c12,c13,c14,c15⟩:=HS5.out.all;have tz:=HS5.out.b.z;have tf:=HS5.out.b.f)
      exact ⟨Or.inr (Or.inr (Or.inl ⟨rfl,HS5.out.v1 _⟩)),by decide⟩
     ·obtain ⟨c0,c1,c2,c3,c4,c5,c6,c7,c8,c9,c10,c11,c12,c13,c14,c15⟩:=hS.all
      have tz:=hS.b.z
      have tf:=hS.b.f
      have HS:=hid hS
      clear hS
      go_wp2_with (go_at_call 118;refine (latV x.c m _ HF.out.c hmm).mono ?_;rintro e w5 ⟨rfl,hb5⟩;have HS5:=hid ((HS.out.over _).kept hb5);obtain ⟨c0,c1,c2,c3,c4,c5,c6,c7,c8,c9,c10,c11,c12,c13,c14,c15⟩:=HS5.out.all;have tz:=HS5.out.b.z;have tf:=HS5.out.b.f)
      exact ⟨Or.inr (Or.inr (Or.inr ⟨rfl,HS5.out.v2 _⟩)),by decide⟩
     ·have c15:=hS.w15
      have tz:=hS.b.z
      have tf:=hS.b.f
      have HS:=hid hS
      clear hS
      go_wp2
      go_roundw
      case rel =>
       obtain ⟨e1,e2⟩:=zgk (mN:=m.toNat) HX.out HLL.out HF.out (by omega) hm1 hm2
       refine ⟨k+m.toNat,by omega,?_,?_⟩
       ·congr 1;omega
       ·rw [e1,e2];exact HS.out.wait _
      case measure=>simp [intOf];omega
   ·-- none
    have hz':(x.w == 0)=false:=by simpa using hz
    have hwt0:wt x=x.w:=by unfold wt;rw [if_neg hz]
    have hone:one x=[]:=by unfold one;rw [if_neg hz]
    have HO:=hid hone
    have HW0:=hid hwt0
    rw [hwt0] at hm0
    have HM0:=hid hm0
    clear hz hone hwt0 hm0
    go_wp2
    rw [<- HM0.out]
    go_loopw [39] (λi wr=>(i = .int .i64 0/\SmW w ⟨x.a,x.b,x.c,wt x⟩ (L++one x) u4 wr) \/ (i = .int .i64 1/\SmW w ⟨x.a.later m,x.b,x.c,wt x⟩ (L++one x) u4 wr) \/ (i = .int .i64 2/\SmW w ⟨x.a.later m,x.b.later m,x.c,wt x⟩ (L++one x) u4 wr) \/ (i = .int .i64 3/\SmW w ⟨x.a.later m,x.b.later m,x.c.later m,wt x⟩ (L++one x) u4 wr)) (λi _=>3-(intOf i).toNat)
    case atStart=>exact Or.inl ⟨rfl,by rw [HO.out,HW0.out,List.append_nil];exact HA.out⟩
    case round =>
     clear HA l3 c0 c1 c2 c3 c4 c5 c6 c7 c8 c9 c10 c11 c12 c13 c14 c15 tz tf
     rcases hrel with ⟨rfl,hS⟩|⟨rfl,hS⟩|⟨rfl,hS⟩|⟨rfl,hS⟩
     ·obtain ⟨c0,c1,c2,c3,c4,c5,c6,c7,c8,c9,c10,c11,c12,c13,c14,c15⟩:=hS.all
      have tz:=hS.b.z
      have tf:=hS.b.f
      have HS:=hid hS
      clear hS
      go_wp2_with (go_at_call 118;refine (latV x.a m _ HF.out.a hmm).mono ?_;rintro e w5 ⟨rfl,hb5⟩;have HS5:=hid ((HS.out.over _).kept hb5);obtain ⟨c0,c1,c2,c3,c4,c5,c6,c7,c8,c9,c10,c11,c12,c13,c14,c15⟩:=HS5.out.all;have tz:=HS5.out.b.z;have tf:=HS5.out.b.f)
      exact ⟨Or.inr (Or.inl ⟨rfl,HS5.out.v0 _⟩),by decide⟩
     ·obtain ⟨c0,c1,c2,c3,c4,c5,c6,c7,c8,c9,c10,c11,c12,c13,c14,c15⟩:=hS.all
      have tz:=hS.b.z
      have tf:=hS.b.f
      have HS:=hid hS
      clear hS
      go_wp2_with (go_at_call 118;refine (latV x.b m _ HF.out.b hmm).mono ?_;rintro e w5 ⟨rfl,hb5⟩;have HS5:=hid ((HS.out.over _).kept hb5);obtain ⟨c0,c1,c2,c3,c4,c5,c6,c7,c8,c9,c10,c11,c12,c13,c14,c15⟩:=HS5.out.all;have tz:=HS5.out.b.z;have tf:=HS5.out.b.f)
      exact ⟨Or.inr (Or.inr (Or.inl ⟨rfl,HS5.out.v1 _⟩)),by decide⟩
     ·obtain ⟨c0,c1,c2,c3,c4,c5,c6,c7,c8,c9,c10,c11,c12,c13,c14,c15⟩:=hS.all
      have tz:=hS.b.z
      have tf:=hS.b.f
      have HS:=hid hS
      clear hS
      go_wp2_with (go_at_call 118;refine (latV x.c m _ HF.out.c hmm).mono ?_;rintro e w5 ⟨rfl,hb5⟩;have HS5:=hid ((HS.out.over _).kept hb5);obtain ⟨c0,c1,c2,c3,c4,c5,c6,c7,c8,c9,c10,c11,c12,c13,c14,c15⟩:=HS5.out.all;have tz:=HS5.out.b.z;have tf:=HS5.out.b.f)
      exact ⟨Or.inr (Or.inr (Or.inr ⟨rfl,HS5.out.v2 _⟩)),by decide⟩
     ·have c15:=hS.w15
      have tz:=hS.b.z
      have tf:=hS.b.f
      have HS:=hid hS
      clear hS
      go_wp2
      go_roundw
      case rel =>
       obtain ⟨e1,e2⟩:=zgk (mN:=m.toNat) HX.out HLL.out HF.out (by omega) hm1 hm2
       refine ⟨k+m.toNat,by omega,?_,?_⟩
       ·congr 1;omega
       ·rw [e1,e2];exact HS.out.wait _
      case measure=>simp [intOf];omega
  ·-- all clocks are over
   obtain rfl:k=N:=by omega
   have HA:=hid hA
   have tz:=hA.r.z
   have tf:=hA.r.f
   obtain ⟨r0,r1,r2,r3,r4,r5,r6,r7,r8,r9,r10,r11,r12,r13,r14,r15⟩:=hA.allr
   obtain ⟨c0,c1,c2,c3,c4,c5,c6,c7,c8,c9,c10,c11,c12,c13,c14,c15⟩:=hA.all
   have HK0:=hid hA.all
   have HK1:=hid hA.drew.all
   have HK2:=hid (hA.alls (s.ticks k))
   have HK3:=hid (hA.alls' (s.ticks k))
   have HK4:=hid (hA.drew.alls (s.ticks k))
   clear hA
   go_wp2
   go_region_held3 (λw'=>w'.cell? ⟨w.heap.size,0,none⟩=some (.int .u16 (s.ticks k).a.p)/\w'.cell? ⟨w.heap.size,1,none⟩=some (.int .u16 (s.ticks k).a.c)/\w'.cell? ⟨w.heap.size,2,none⟩=some (.int .u8 (s.ticks k).a.l)/\w'.cell? ⟨w.heap.size,3,none⟩=some (.bool (s.ticks k).a.h)/\w'.cell? ⟨w.heap.size,4,none⟩=some (.int .u16 (s.ticks k).a.n)/\w'.cell? ⟨w.heap.size,5,none⟩=some (.int .u16 (s.ticks k).b.p)/\w'.cell? ⟨w.heap.size,6,none⟩=some (.int .u16 (s.ticks k).b.c)/\w'.cell? ⟨w.heap.size,7,none⟩=some (.int .u8 (s.ticks k).b.l)/\w'.cell? ⟨w.heap.size,8,none⟩=some (.bool (s.ticks k).b.h)/\w'.cell? ⟨w.heap.size,9,none⟩=some (.int .u16 (s.ticks k).b.n)/\w'.cell? ⟨w.heap.size,10,none⟩=some (.int .u16 (s.ticks k).c.p)/\w'.cell? ⟨w.heap.size,11,none⟩=some (.int .u16 (s.ticks k).c.c)/\w'.cell? ⟨w.heap.size,12,none⟩=some (.int .u8 (s.ticks k).c.l)/\w'.cell? ⟨w.heap.size,13,none⟩=some (.bool (s.ticks k).c.h)/\w'.cell? ⟨w.heap.size,14,none⟩=some (.int .u16 (s.ticks k).c.n)/\w'.cell? ⟨w.heap.size,15,none⟩=some (.int .i64 (s.ticks k).w))
    (first
      | with_reducible exact HK0.out
      | with_reducible exact HK1.out
      | (rw [nest16];with_reducible exact HK2.out)
      | (rw [nest16];with_reducible exact HK3.out)
      | (rw [nest16];with_reducible exact HK4.out))
    (fail)
   go_wp2
   rw [nest16]
   refine Pl.cutB (λW=>Below w.heap.size w W/\Bx W (w.heap.size+1) (scs (s.ticks k))/\sliceAt W u4 (sms s k)) ⟨?_,?_,?_⟩ ?_
   ·exact (Bl.puts HA.out.low (by omega) _).drew
   ·exact (HA.out.r.puts 0 (scs (s.ticks k)) (by simp)).drew
   ·exact (zbD (zcf (by omega) _ 0 HA.out.o)).drew
   rintro W ⟨hlow,hbox,hsl⟩
   have hl:=loadS hbox
   refine bodyPost_ret (v:=.tuple #[u4,(.agg #[.int .u16 (s.ticks k).a.p,.int .u16 (s.ticks k).a.c,.int .u8 (s.ticks k).a.l,.bool (s.ticks k).a.h,.int .u16 (s.ticks k).a.n,.int .u16 (s.ticks k).b.p,.int .u16 (s.ticks k).b.c,.int .u8 (s.ticks k).b.l,.bool (s.ticks k).b.h,.int .u16 (s.ticks k).b.n,.int .u16 (s.ticks k).c.p,.int .u16 (s.ticks k).c.c,.int .u8 (s.ticks k).c.l,.bool (s.ticks k).c.h,.int .u16 (s.ticks k).c.n,.int .i64 (s.ticks k).w]),.int .i64 0]) ?_ rfl ⟨_,rfl,hsl,hlow⟩
   simp only [results,Tryz.results65]
   simp
   show (Result.andThen (Sem.run Tryz.prog (loadVar 36 ⟨w.heap.size+1,0,none⟩) W) _)=_
   rw [hl]
   rfl
theorem eqv (v:Vc) (d:Nat) (w:World):(Op.equalIn (d+2) 33 (.agg #[.int .u16 v.p,.int .u16 v.c,.int .u8 v.l,.bool v.h,.int .u16 v.n]) (.agg #[.int .u16 v.p,.int .u16 v.c,.int .u8 v.l,.bool v.h,.int .u16 v.n])).run Tryz.prog w = .ok true w:=by
 have u3:=Tryz.underlying22
 have a3:=Tryz.isAgg22
 have z3:=Tryz.sizeOf22
 have u4:=Tryz.underlying4
 have a4:=Tryz.isAgg4
 have z4:=Tryz.sizeOf4
 have u5:=Tryz.underlying5
 have a5:=Tryz.isAgg5
 have z5:=Tryz.sizeOf5
 have hS:Tryz.prog.underlying 33=some (.struct (Tryz.prog.fieldsOf 33)):=by kernel_rfl
 have hp:Tryz.prog.stoodInHeld 33=false:=by kernel_rfl
 rw [run_equalIn_agg w (d+1) 33 _ _ hS hp]
 simp only [Program.fieldsOf,Tryz.underlying33]
 go_simp
theorem zog (s:Sd) (d:Nat) (w:World):(Op.equalIn (d+3) 34 (.agg #[.int .u16 s.a.p,.int .u16 s.a.c,.int .u8 s.a.l,.bool s.a.h,.int .u16 s.a.n,.int .u16 s.b.p,.int .u16 s.b.c,.int .u8 s.b.l,.bool s.b.h,.int .u16 s.b.n,.int .u16 s.c.p,.int .u16 s.c.c,.int .u8 s.c.l,.bool s.c.h,.int .u16 s.c.n]) (.agg #[.int .u16 s.a.p,.int .u16 s.a.c,.int .u8 s.a.l,.bool s.a.h,.int .u16 s.a.n,.int .u16 s.b.p,.int .u16 s.b.c,.int .u8 s.b.l,.bool s.b.h,.int .u16 s.b.n,.int .u16 s.c.p,.int .u16 s.c.c,.int .u8 s.c.l,.bool s.c.h,.int .u16 s.c.n])).run Tryz.prog w = .ok true w:=by
 have h0:=eqv s.a d
 have h1:=eqv s.b d
 have h2:=eqv s.c d
 have a3:=Tryz.isAgg33
 have z3:=Tryz.sizeOf33
 have hU:Tryz.prog.cellsOf 33=5:=by kernel_rfl
 have hs:(Tryz.prog.info? 33).isSome=true:=by kernel_rfl
 obtain ⟨i,hi⟩:=Option.isSome_iff_exists.1 hs
 rw [run_equalIn_array w (d+2) _ _ zcu hi,hU]
 simp only [List.range,List.range.loop,Op.eqItems]
 go_simp
theorem zoh (s:Sd) (w:World):(binOp .eql 36 (.agg #[.int .u16 s.a.p,.int .u16 s.a.c,.int .u8 s.a.l,.bool s.a.h,.int .u16 s.a.n,.int .u16 s.b.p,.int .u16 s.b.c,.int .u8 s.b.l,.bool s.b.h,.int .u16 s.b.n,.int .u16 s.c.p,.int .u16 s.c.c,.int .u8 s.c.l,.bool s.c.h,.int .u16 s.c.n,.int .i64 s.w]) (.agg #[.int .u16 s.a.p,.int .u16 s.a.c,.int .u8 s.a.l,.bool s.a.h,.int .u16 s.a.n,.int .u16 s.b.p,.int .u16 s.b.c,.int .u8 s.b.l,.bool s.b.h,.int .u16 s.b.n,.int .u16 s.c.p,.int .u16 s.c.c,.int .u8 s.c.l,.bool s.c.h,.int .u16 s.c.n,.int .i64 s.w])).run Tryz.prog w = .ok (.bool true) w:=by
 have u3:=Tryz.underlying3
 have x3:=Tryz.isAgg3
 have z3:=Tryz.sizeOf3
 have x5:=Tryz.isAgg34
 have z5:=Tryz.sizeOf34
 have ha:=zog s 9996
 have hS:Tryz.prog.underlying 36=some (.struct (Tryz.prog.fieldsOf 36)):=by kernel_rfl
 have hp:Tryz.prog.stoodInHeld 36=false:=by kernel_rfl
 rw [run_eql_struct,show (10000:Nat)=9999+1 from rfl,run_equalIn_agg w 9999 36 _ _ hS hp]
 simp only [Program.fieldsOf,Tryz.underlying36]
 go_simp
theorem there16 {W:World} {b:Nat} (h:Bx W b zs):W.there b 0 16:=h.there 0 16 (by simp)
theorem all16 (x:Sd):(#[.int .u16 x.a.p,.int .u16 x.a.c,.int .u8 x.a.l,.bool x.a.h,.int .u16 x.a.n,.int .u16 x.b.p,.int .u16 x.b.c,.int .u8 x.b.l,.bool x.b.h,.int .u16 x.b.n,.int .u16 x.c.p,.int .u16 x.c.c,.int .u8 x.c.l,.bool x.c.h,.int .u16 x.c.n,.int .i64 x.w]:Array Value).all (·.oneCell')=true:=by simp [Value.oneCell']
theorem Bx.w0 {W:World} {b:Nat} {x:Sd} (h:Bx W b (scs x)):W.cell? ⟨b,0,none⟩=some (.int .u16 x.a.p)/\W.cell? ⟨b,1,none⟩=some (.int .u16 x.a.c)/\W.cell? ⟨b,2,none⟩=some (.int .u8 x.a.l)/\W.cell? ⟨b,3,none⟩=some (.bool x.a.h)/\W.cell? ⟨b,4,none⟩=some (.int .u16 x.a.n)/\b<W.heap.size /\ ∀ o,W.frozen? ⟨b,o,none⟩=false :=
 ⟨h.at 0 _ rfl,h.at 1 _ rfl,h.at 2 _ rfl,h.at 3 _ rfl,h.at 4 _ rfl,h.z,h.f⟩
theorem Bx.w1 {W:World} {b:Nat} {x:Sd} (h:Bx W b (scs x)):W.cell? ⟨b,5,none⟩=some (.int .u16 x.b.p)/\W.cell? ⟨b,6,none⟩=some (.int .u16 x.b.c)/\W.cell? ⟨b,7,none⟩=some (.int .u8 x.b.l)/\W.cell? ⟨b,8,none⟩=some (.bool x.b.h)/\W.cell? ⟨b,9,none⟩=some (.int .u16 x.b.n)/\b<W.heap.size /\ ∀ o,W.frozen? ⟨b,o,none⟩=false :=
 ⟨h.at 5 _ rfl,h.at 6 _ rfl,h.at 7 _ rfl,h.at 8 _ rfl,h.at 9 _ rfl,h.z,h.f⟩
theorem Bx.w2 {W:World} {b:Nat} {x:Sd} (h:Bx W b (scs x)):W.cell? ⟨b,10,none⟩=some (.int .u16 x.c.p)/\W.cell? ⟨b,11,none⟩=some (.int .u16 x.c.c)/\W.cell? ⟨b,12,none⟩=some (.int .u8 x.c.l)/\W.cell? ⟨b,13,none⟩=some (.bool x.c.h)/\W.cell? ⟨b,14,none⟩=some (.int .u16 x.c.n)/\b<W.heap.size /\ ∀ o,W.frozen? ⟨b,o,none⟩=false :=
 ⟨h.at 10 _ rfl,h.at 11 _ rfl,h.at 12 _ rfl,h.at 13 _ rfl,h.at 14 _ rfl,h.z,h.f⟩
theorem SmW.two (w:World) (s:Sd):SmW w s [] (.slice none 0 0) ((w.alloc (.cells #[.int .u16 s.a.p,.int .u16 s.a.c,.int .u8 s.a.l,.bool s.a.h,.int .u16 s.a.n,.int .u16 s.b.p,.int .u16 s.b.c,.int .u8 s.b.l,.bool s.b.h,.int .u16 s.b.n,.int .u16 s.c.p,.int .u16 s.c.c,.int .u8 s.c.l,.bool s.c.h,.int .u16 s.c.n,.int .i64 s.w] 36)).alloc (.cells #[.int .u16 0,.int .u16 0,.int .u8 0,.bool false,.int .u16 0,.int .u16 0,.int .u16 0,.int .u8 0,.bool false,.int .u16 0,.int .u16 0,.int .u16 0,.int .u8 0,.bool false,.int .u16 0,.int .i64 0] 36)):=⟨stA (stA (st0 w) _) _,(Bx.new w (scs s) _ rfl).over _,Bx.new _ zs _ (by simp),⟨rfl,Or.inl ⟨rfl,rfl⟩⟩⟩
theorem zoi (x0 x1 x2 x3 x4 x5 x6 x7:Value) (w:World):(Instr.index 348 (.agg #[x0,x1,x2,x3,x4,x5,x6,x7]) (.int .i64 0)).run Tryz.prog w = .ok x0 w:=by kernel_rfl
theorem zoj (x0 x1 x2 x3 x4 x5 x6 x7:Value) (w:World):(Instr.index 348 (.agg #[x0,x1,x2,x3,x4,x5,x6,x7]) (.int .i64 1)).run Tryz.prog w = .ok x1 w:=by kernel_rfl
theorem zol (x0 x1 x2 x3 x4 x5 x6 x7:Value) (w:World):(Instr.index 348 (.agg #[x0,x1,x2,x3,x4,x5,x6,x7]) (.int .i64 2)).run Tryz.prog w = .ok x2 w:=by kernel_rfl
theorem zom (x0 x1 x2 x3 x4 x5 x6 x7:Value) (w:World):(Instr.index 348 (.agg #[x0,x1,x2,x3,x4,x5,x6,x7]) (.int .i64 3)).run Tryz.prog w = .ok x3 w:=by kernel_rfl
theorem zon (x0 x1 x2 x3 x4 x5 x6 x7:Value) (w:World):(Instr.index 348 (.agg #[x0,x1,x2,x3,x4,x5,x6,x7]) (.int .i64 4)).run Tryz.prog w = .ok x4 w:=by kernel_rfl
theorem zoo (x0 x1 x2 x3 x4 x5 x6 x7:Value) (w:World):(Instr.index 348 (.agg #[x0,x1,x2,x3,x4,x5,x6,x7]) (.int .i64 5)).run Tryz.prog w = .ok x5 w:=by kernel_rfl
theorem zop (x0 x1 x2 x3 x4 x5 x6 x7:Value) (w:World):(Instr.index 348 (.agg #[x0,x1,x2,x3,x4,x5,x6,x7]) (.int .i64 6)).run Tryz.prog w = .ok x6 w:=by kernel_rfl
theorem zoq (x0 x1 x2 x3 x4 x5 x6 x7:Value) (w:World):(Instr.index 348 (.agg #[x0,x1,x2,x3,x4,x5,x6,x7]) (.int .i64 7)).run Tryz.prog w = .ok x7 w:=by kernel_rfl
theorem zor (v:Vc) (b:Int) (w:World):Calls Tryz.prog 307 #[(.agg #[.int .u16 v.p,.int .u16 v.c,.int .u8 v.l,.bool v.h,.int .u16 v.n]),.int .u8 b] w λe w'=>e = .returned (.agg #[.int .u16 (v.put 5 b).p,.int .u16 (v.put 5 b).c,.int .u8 (v.put 5 b).l,.bool (v.put 5 b).h,.int .u16 (v.put 5 b).n])/\Below w.heap.size w w':=zdR v b w
theorem zos (v:Vc) (b:Int) (w:World):Calls Tryz.prog 307 #[(.agg #[.int .u16 v.p,.int .u16 v.c,.int .u8 v.l,.bool v.h,.int .u16 v.n]),.int .u8 b] w λe w'=>e = .returned (.agg #[.int .u16 (v.put 6 b).p,.int .u16 (v.put 6 b).c,.int .u8 (v.put 6 b).l,.bool (v.put 6 b).h,.int .u16 (v.put 6 b).n])/\Below w.heap.size w w':=zdR v b w
theorem zot (v:Vc) (b:Int) (w:World):Calls Tryz.prog 307 #[(.agg #[.int .u16 v.p,.int .u16 v.c,.int .u8 v.l,.bool v.h,.int .u16 v.n]),.int .u8 b] w λe w'=>e = .returned (.agg #[.int .u16 (v.put 7 b).p,.int .u16 (v.put 7 b).c,.int .u8 (v.put 7 b).l,.bool (v.put 7 b).h,.int .u16 (v.put 7 b).n])/\Below w.heap.size w w':=zdR v b w
end Go.Proofs.YtbennamieealbaaGreatDoor
