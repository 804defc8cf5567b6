/-
  Parts of a proof, joined.
-/
import Derived.Test.YtbennamieealbaaGreatDoorZg12
import Derived.Test.YtbennamieealbaaGreatDoorZg32
import Derived.Deep.AppendLies
set_option linter.unusedVariables false
set_option maxRecDepth 100000
set_option maxHeartbeats 6400000
namespace Go.Proofs.YtbennamieealbaaGreatDoor
open Go.ChangeShapes Go.WideShapes Go.ChangeAt Go.RowKit
theorem zb9 (s:Sd) (N:Nat) (w:World) (h:s.fit) (hn:N<=20000) :
 Calls Tryz.prog 65 #[(.agg #[.int .u16 s.a.p,.int .u16 s.a.c,.int .u8 s.a.l,.bool s.a.h,.int .u16 s.a.n,.int .u16 s.b.p,.int .u16 s.b.c,.int .u8 s.b.l,.bool s.b.h,.int .u16 s.b.n,.int .u16 s.c.p,.int .u16 s.c.c,.int .u8 s.c.l,.bool s.c.h,.int .u16 s.c.n,.int .i64 s.w]),.int .i64 N] w λe w'=>∃ v,e = .returned (.tuple #[v,(.agg #[.int .u16 (s.ticks N).a.p,.int .u16 (s.ticks N).a.c,.int .u8 (s.ticks N).a.l,.bool (s.ticks N).a.h,.int .u16 (s.ticks N).a.n,.int .u16 (s.ticks N).b.p,.int .u16 (s.ticks N).b.c,.int .u8 (s.ticks N).b.l,.bool (s.ticks N).b.h,.int .u16 (s.ticks N).b.n,.int .u16 (s.ticks N).c.p,.int .u16 (s.ticks N).c.c,.int .u8 (s.ticks N).c.l,.bool (s.ticks N).c.h,.int .u16 (s.ticks N).c.n,.int .i64 (s.ticks N).w]),.int .i64 0])/\sliceAt w' v (sms s N)/\(∀ k,v.ownBlock=some k->w.heap.size+2<=k)/\Below w.heap.size w w':=by
 have hm:=zmO N
 rw [decide_eq_true (show 0<=(N:Int)/\(N:Int)<=20000 by omega)] at hm
 have i0:=v3_0
 have i1:=v3_1
 have i2:=v3_2
 go_enter Tryz.func65,Tryz.ntmps65
 go_wp2_with (first
  | (go_at_call 27;refine (zei s _ h.w).mono ?_;rintro e w0 ⟨rfl,hb0⟩)
  | (go_at_call 116;refine (hm _).mono ?_;rintro e w9 ⟨rfl,rfl⟩))
 have HS0:Hid (SmW w s [] (.slice none 0 0) w0):=(⟨stA (stA (st0 w) _) _,(Bx.new w (scs s) _ rfl).over _,Bx.new _ zs _ (by simp),⟨rfl,Or.inl ⟨rfl,rfl⟩⟩⟩:SmW w s [] (.slice none 0 0) _).kept hb0
 clear hb0 hm
 go_loopw [1,4] (λn v wr=>∃ k:Nat,k<=N/\n = .int .i64 (N-k:Int)/\SmW w (s.ticks k) (sms s k) v wr) (λn _ _=>(intOf n).toNat)
 case atStart=>exact ⟨0,Nat.zero_le _,by simp,HS0.out⟩
 case round =>
  clear HS0
  obtain ⟨k,hk,rfl,hA⟩:=hrel
  have HF:=hid (Sd.ticks_fit h k)
  have HL:=hid (zgd s k)
  by_cases h8:k<N
  ·have h8':(0:Int)<(N:Int)-k:=by omega
   have hwt:=wt_bd HF.out
   obtain ⟨m,hm0⟩:∃ m:Int,m=min ((N:Int)-k) (wt (s.ticks k)):=⟨_,rfl⟩
   have hmm:0<=m/\m<=20000:=by omega
   have hm1:1<=m:=by omega
   have hm2:m<=wt (s.ticks k):=by omega
   have hm3:m<=(N:Int)-k:=by omega
   generalize hx:s.ticks k=x at *
   generalize hL:sms s k=L at *
   have HX:=hid hx
   have HLL:=hid hL
   clear hx hL
   have HA:=hid hA
   obtain ⟨c0,c1,c2,c3,c4,c5,c6,c7,c8,c9,c10,c11,c12,c13,c14,c15⟩:=hA.all
   have tz:=hA.b.z
   have tf:=hA.b.f
   have l3:=load3 hA.b
   clear hA
   by_cases hz:x.w=0
   ·-- a sample
    have hwt0:wt x=16:=by unfold wt;rw [if_pos hz]
    have hone:one x=[sm x]:=by unfold one;rw [if_pos hz]
    have HO:=hid hone
    have HW0:=hid hwt0
    rw [hwt0] at hm0
    have HM0:=hid hm0
    have hsm:=(zn5 x).symm
    have HLB:Hid (L.length<=50000):=by have:=HL.out;exact Nat.le_trans this (by omega)
    have HSM:=hid hsm
    have HZ:=hid hz
    clear hone hwt0 hsm hm0
    rw [hz] at c15
    clear hz
    go_wp2_with (first
     | (go_at_call 117;refine (zhh x _ HF.out.k).mono ?_;rintro e w3 ⟨rfl,hb3⟩;have HA3:=hid (HA.out.kept hb3);have own3:=hid (HA3.out.over (.cells #[.int .u8 (smI x)] 5)))
     | (at_builtin;refine app1 (by rfl) _ _ (by rfl) (w.heap.size+2) _ L (by rfl) own3.out.o w3.heap.size 1 (sm x) (smI x) (by rfl) (Pl.new _ _ _ _ rfl) HSM.out HLB.out own3.out.r.z ?_;intro v' w' hown' hb';have HA4:=hid (own3.out.app hb' hown');obtain ⟨c0,c1,c2,c3,c4,c5,c6,c7,c8,c9,c10,c11,c12,c13,c14,c15⟩:=HA4.out.all;have tz:=HA4.out.b.z;have tf:=HA4.out.b.f;have l3':=load3 (HA4.out.wait 16).b))
    rw [<- HM0.out]
    go_loopw [39] (λi wr=>(i = .int .i64 0/\SmW w ⟨x.a,x.b,x.c,wt x⟩ (L++one x) v' wr) \/ (i = .int .i64 1/\SmW w ⟨x.a.later m,x.b,x.c,wt x⟩ (L++one x) v' wr) \/ (i = .int .i64 2/\SmW w ⟨x.a.later m,x.b.later m,x.c,wt x⟩ (L++one x) v' wr) \/ (i = .int .i64 3/\SmW w ⟨x.a.later m,x.b.later m,x.c.later m,wt x⟩ (L++one x) v' wr)) (λi _=>3-(intOf i).toNat)
    case atStart=>exact Or.inl ⟨rfl,by rw [HO.out,HW0.out];exact HA4.out.wait 16⟩
    case round =>
     clear HA HA3 HA4 own3 l3 l3' c0 c1 c2 c3 c4 c5 c6 c7 c8 c9 c10 c11 c12 c13 c14 c15 tz tf hown' hb' hb3
     rcases hrel with ⟨rfl,hS⟩|⟨rfl,hS⟩|⟨rfl,hS⟩|⟨rfl,hS⟩
     ·obtain ⟨c0,c1,c2,c3,c4,c5,c6,c7,c8,c9,c10,c11,c12,c13,c14,c15⟩:=hS.all
      have tz:=hS.b.z
      have tf:=hS.b.f
      have HS:=hid hS
      clear hS
      go_wp2_with (go_at_call 118;refine (latV x.a m _ HF.out.a hmm).mono ?_;rintro e w5 ⟨rfl,hb5⟩;have HS5:=hid ((HS.out.over _).kept hb5);obtain ⟨c0,c1,c2,c3,c4,c5,c6,c7,c8,c9,c10,c11,c12,c13,c14,c15⟩:=HS5.out.all;have tz:=HS5.out.b.z;have tf:=HS5.out.b.f)
      exact ⟨Or.inr (Or.inl ⟨rfl,HS5.out.v0 _⟩),by decide⟩
     ·obtain ⟨c0,c1,c2,c3,c4,c5,c6,c7,c8,c9,c10,c11,c12,c13,c14,c15⟩:=hS.all
      have tz:=hS.b.z
      have tf:=hS.b.f
      have HS:=hid hS
      clear hS
      go_wp2_with (go_at_call 118;refine (latV x.b m _ HF.out.b hmm).mono ?_;rintro e w5 ⟨rfl,hb5⟩;have HS5:=hid ((HS.out.over _).kept hb5);obtain ⟨c0,c1,c2,c3,c4,c5,c6,c7,c8,c9,c10,c11,c12,c13,c14,c15⟩:=HS5.out.all;have tz:=HS5.out.b.z;have tf:=HS5.out.b.f)
      exact ⟨Or.inr (Or.inr (Or.inl ⟨rfl,HS5.out.v1 _⟩)),by decide⟩
     ·obtain ⟨c0,c1,c2,c3,c4,c5,c6,c7,c8,c9,c10,c11,c12,c13,c14,c15⟩:=hS.all
      have tz:=hS.b.z
      have tf:=hS.b.f
      have HS:=hid hS
      clear hS
      go_wp2_with (go_at_call 118;refine (latV x.c m _ HF.out.c hmm).mono ?_;rintro e w5 ⟨rfl,hb5⟩;have HS5:=hid ((HS.out.over _).kept hb5);obtain ⟨c0,c1,c2,c3,c4,c5,c6,c7,c8,c9,c10,c11,c12,c13,c14,c15⟩:=HS5.out.all;have tz:=HS5.out.b.z;have tf:=HS5.out.b.f)
      exact ⟨Or.inr (Or.inr (Or.inr ⟨rfl,HS5.out.v2 _⟩)),by decide⟩
     ·have c15:=hS.w15
      have tz:=hS.b.z
      have tf:=hS.b.f
      have HS:=hid hS
      clear hS
      go_wp2
      go_roundw
      case rel =>
       obtain ⟨e1,e2⟩:=ziA (mN:=m.toNat) HX.out HLL.out HF.out (by omega) hm1 hm2
       refine ⟨k+m.toNat,by omega,?_,?_⟩
       ·congr 1;omega
       ·rw [e1,e2];exact HS.out.wait _
      case measure=>simp [intOf];omega
   ·-- none
    have hz':(x.w == 0)=false:=by simpa using hz
    have hwt0:wt x=x.w:=by unfold wt;rw [if_neg hz]
    have hone:one x=[]:=by unfold one;rw [if_neg hz]
    have HO:=hid hone
    have HW0:=hid hwt0
    rw [hwt0] at hm0
    have HM0:=hid hm0
    clear hz hone hwt0 hm0
    go_wp2
    rw [<- HM0.out]
    go_loopw [39] (λi wr=>(i = .int .i64 0/\SmW w ⟨x.a,x.b,x.c,wt x⟩ (L++one x) u4 wr) \/ (i = .int .i64 1/\SmW w ⟨x.a.later m,x.b,x.c,wt x⟩ (L++one x) u4 wr) \/ (i = .int .i64 2/\SmW w ⟨x.a.later m,x.b.later m,x.c,wt x⟩ (L++one x) u4 wr) \/ (i = .int .i64 3/\SmW w ⟨x.a.later m,x.b.later m,x.c.later m,wt x⟩ (L++one x) u4 wr)) (λi _=>3-(intOf i).toNat)
    case atStart=>exact Or.inl ⟨rfl,by rw [HO.out,HW0.out,List.append_nil];exact HA.out⟩
    case round =>
     clear HA l3 c0 c1 c2 c3 c4 c5 c6 c7 c8 c9 c10 c11 c12 c13 c14 c15 tz tf
     rcases hrel with ⟨rfl,hS⟩|⟨rfl,hS⟩|⟨rfl,hS⟩|⟨rfl,hS⟩
     ·obtain ⟨c0,c1,c2,c3,c4,c5,c6,c7,c8,c9,c10,c11,c12,c13,c14,c15⟩:=hS.all
      have tz:=hS.b.z
      have tf:=hS.b.f
      have HS:=hid hS
      clear hS
      go_wp2_with (go_at_call 118;refine (latV x.a m _ HF.out.a hmm).mono ?_;rintro e w5 ⟨rfl,hb5⟩;have HS5:=hid ((HS.out.over _).kept hb5);obtain ⟨c0,c1,c2,c3,c4,c5,c6,c7,c8,c9,c10,c11,c12,c13,c14,c15⟩:=HS5.out.all;have tz:=HS5.out.b.z;have tf:=HS5.out.b.f)
      exact ⟨Or.inr (Or.inl ⟨rfl,HS5.out.v0 _⟩),by decide⟩
     ·obtain ⟨c0,c1,c2,c3,c4,c5,c6,c7,c8,c9,c10,c11,c12,c13,c14,c15⟩:=hS.all
      have tz:=hS.b.z
      have tf:=hS.b.f
      have HS:=hid hS
      clear hS
      go_wp2_with (go_at_call 118;refine (latV x.b m _ HF.out.b hmm).mono ?_;rintro e w5 ⟨rfl,hb5⟩;have HS5:=hid ((HS.out.over _).kept hb5);obtain ⟨c0,c1,c2,c3,c4,c5,c6,c7,c8,c9,c10,c11,c12,c13,c14,c15⟩:=HS5.out.all;have tz:=HS5.out.b.z;have tf:=HS5.out.b.f)
      exact ⟨Or.inr (Or.inr (Or.inl ⟨rfl,HS5.out.v1 _⟩)),by decide⟩
     ·obtain ⟨c0,c1,c2,c3,c4,c5,c6,c7,c8,c9,c10,c11,c12,c13,c14,c15⟩:=hS.all
      have tz:=hS.b.z
      have tf:=hS.b.f
      have HS:=hid hS
      clear hS
      go_wp2_with (go_at_call 118;refine (latV x.c m _ HF.out.c hmm).mono ?_;rintro e w5 ⟨rfl,hb5⟩;have HS5:=hid ((HS.out.over _).kept hb5);obtain ⟨c0,c1,c2,c3,c4,c5,c6,c7,c8,c9,c10,c11,c12,c13,c14,c15⟩:=HS5.out.all;have tz:=HS5.out.b.z;have tf:=HS5.out.b.f)
      exact ⟨Or.inr (Or.inr (Or.inr ⟨rfl,HS5.out.v2 _⟩)),by decide⟩
     ·have c15:=hS.w15
      have tz:=hS.b.z
      have tf:=hS.b.f
      have HS:=hid hS
      clear hS
      go_wp2
      go_roundw
      case rel =>
       obtain ⟨e1,e2⟩:=ziA (mN:=m.toNat) HX.out HLL.out HF.out (by omega) hm1 hm2
       refine ⟨k+m.toNat,by omega,?_,?_⟩
       ·congr 1;omega
       ·rw [e1,e2];exact HS.out.wait _
      case measure=>simp [intOf];omega
  ·-- all clocks are over
   obtain rfl:k=N:=by omega
   have HA:=hid hA
   have tz:=hA.r.z
   have tf:=hA.r.f
   obtain ⟨r0,r1,r2,r3,r4,r5,r6,r7,r8,r9,r10,r11,r12,r13,r14,r15⟩:=hA.allr
   obtain ⟨c0,c1,c2,c3,c4,c5,c6,c7,c8,c9,c10,c11,c12,c13,c14,c15⟩:=hA.all
   have HK0:=hid hA.all
   have HK1:=hid hA.drew.all
   have HK2:=hid (hA.alls (s.ticks k))
   have HK3:=hid (hA.alls' (s.ticks k))
   have HK4:=hid (hA.drew.alls (s.ticks k))
   clear hA
   go_wp2
   go_region_held3 (λw'=>w'.cell? ⟨w.heap.size,0,none⟩=some (.int .u16 (s.ticks k).a.p)/\w'.cell? ⟨w.heap.size,1,none⟩=some (.int .u16 (s.ticks k).a.c)/\w'.cell? ⟨w.heap.size,2,none⟩=some (.int .u8 (s.ticks k).a.l)/\w'.cell? ⟨w.heap.size,3,none⟩=some (.bool (s.ticks k).a.h)/\w'.cell? ⟨w.heap.size,4,none⟩=some (.int .u16 (s.ticks k).a.n)/\w'.cell? ⟨w.heap.size,5,none⟩=some (.int .u16 (s.ticks k).b.p)/\w'.cell? ⟨w.heap.size,6,none⟩=some (.int .u16 (s.ticks k).b.c)/\w'.cell? ⟨w.heap.size,7,none⟩=some (.int .u8 (s.ticks k).b.l)/\w'.cell? ⟨w.heap.size,8,none⟩=some (.bool (s.ticks k).b.h)/\w'.cell? ⟨w.heap.size,9,none⟩=some (.int .u16 (s.ticks k).b.n)/\w'.cell? ⟨w.heap.size,10,none⟩=some (.int .u16 (s.ticks k).c.p)/\w'.cell? ⟨w.heap.size,11,none⟩=some (.int .u16 (s.ticks k).c.c)/\w'.cell? ⟨w.heap.size,12,none⟩=some (.int .u8 (s.ticks k).c.l)/\w'.cell? ⟨w.heap.size,13,none⟩=some (.bool (s.ticks k).c.h)/\w'.cell? ⟨w.heap.size,14,none⟩=some (.int .u16 (s.ticks k).c.n)/\w'.cell? ⟨w.heap.size,15,none⟩=some (.int .i64 (s.ticks k).w))
    (first
      | with_reducible exact HK0.out
      | with_reducible exact HK1.out
      | (rw [nest16];with_reducible exact HK2.out)
      | (rw [nest16];with_reducible exact HK3.out)
      | (rw [nest16];with_reducible exact HK4.out))
    (fail)
   go_wp2
   rw [nest16]
   refine Pl.cutB (λW=>Below w.heap.size w W/\Bx W (w.heap.size+1) (scs (s.ticks k))/\sliceAt W u4 (sms s k) /\ ∀ g,u4.ownBlock=some g->w.heap.size+2<=g) ⟨?_,?_,?_,λg hg=>(HA.out.o.lt g hg).1⟩ ?_
   ·exact (Bl.puts HA.out.low (by omega) _).drew
   ·exact (HA.out.r.puts 0 (scs (s.ticks k)) (by simp)).drew
   ·exact (zaL (zce (by omega) _ 0 HA.out.o)).drew
   rintro W ⟨hlow,hbox,hsl,hown⟩
   have hl:=loadS hbox
   refine bodyPost_ret (v:=.tuple #[u4,(.agg #[.int .u16 (s.ticks k).a.p,.int .u16 (s.ticks k).a.c,.int .u8 (s.ticks k).a.l,.bool (s.ticks k).a.h,.int .u16 (s.ticks k).a.n,.int .u16 (s.ticks k).b.p,.int .u16 (s.ticks k).b.c,.int .u8 (s.ticks k).b.l,.bool (s.ticks k).b.h,.int .u16 (s.ticks k).b.n,.int .u16 (s.ticks k).c.p,.int .u16 (s.ticks k).c.c,.int .u8 (s.ticks k).c.l,.bool (s.ticks k).c.h,.int .u16 (s.ticks k).c.n,.int .i64 (s.ticks k).w]),.int .i64 0]) ?_ rfl ⟨_,rfl,hsl,hown,hlow⟩
   simp only [results,Tryz.results65]
   simp
   show (Result.andThen (Sem.run Tryz.prog (loadVar 36 ⟨w.heap.size+1,0,none⟩) W) _)=_
   rw [hl]
   rfl
def lcs:List Lin->List Value
 | []=>[]
 | x::l=>.int .i64 x.f :: .int .i64 x.l::(row16 x.px++lcs l)
theorem zgy:∀ (l k:List Lin),lcs (l++k)=lcs l++lcs k
 | [],k=>rfl
 | x::l,k=>by simp only [lcs,List.cons_append,zgy l k,List.append_assoc]
structure CI (F : Fx) (N c : Nat) (vco vln vsm : Value) (w : World) (k : Cs) : Prop where
 i:BI F N w k.s
 cb:CB F N c vco vln vsm w
 co:InpAt F.B w vco k.co
 ok:∀ x∈k.co,x.ok
 ln:w.ownsRow N 62 18 vln k.ln.length (lcs k.ln)
 sm:w.ownsRow N 5 1 vsm k.sm.length (bcs k.sm)
section
variable {F : Fx} {N c : Nat} {vco vln vsm v' : Value} {w w1 : World} {k : Cs} {s' : Bst}
theorem zaJ {t:TypeId} {z:Nat} {v:Value} {n:Nat} {xs:List Value} (h:w.ownsRow N t z v n xs):∀ j,v.ownBlock=some j->N<=j/\j<w.heap.size /\ ∃ cs,w.heap[j]? = some (.cells cs t (0,0)):=λj e=>by
 rcases h.2 with ⟨e0,_⟩|⟨g,cap,cur,e0,hb,hg,_⟩
 ·rw [e0] at e;cases e
 ·rw [e0] at e;cases e
  exact ⟨hb,(Array.getElem?_eq_some_iff.1 hg).1,_,hg⟩
theorem zdy {t:TypeId} {z:Nat} {v:Value} {n:Nat} {xs:List Value} {s:Bst} (h:w.ownsRow N t z v n xs) (ht:t≠66):∀ j,v.ownBlock=some j->¬ Tw (BT N) w s j:=λj e=>by
 obtain ⟨h1,h2,cs,h3⟩:=zaJ h j e
 exact Tw.of (λx=>Nat.not_lt.2 h1 x) h3 ht
theorem zbc {t t':TypeId} {z:Nat} {v:Value} {n:Nat} {xs:List Value} (h:w.ownsRow N t z v n xs) {b:Nat} {cs':Array Value} {fr:Nat × Nat} (hb:w.heap[b]? = some (.cells cs' t' fr)) (ht:t≠t'):v.ownBlock≠some b:=λe=>by
 obtain ⟨h1,h2,cs,h3⟩:=zaJ h b e
 rw [hb] at h3
 simp only [Option.some.injEq,Obj.cells.injEq] at h3
 exact ht h3.2.1.symm
theorem CI.keep (hF:Fb F N) (h:CI F N c vco vln vsm w k) (hb:Below w.heap.size w w1):CI F N c vco vln vsm w1 k :=
 ⟨h.i.kept hF hb,h.cb.kept hb,h.co.kept (hb.mono h.i.big),h.ok,zaA h.ln (λj e=>hb.block j (zaJ h.ln j e).2.1),zaA h.sm (λj e=>hb.block j (zaJ h.sm j e).2.1)⟩
theorem CI.step (h:CI F N c vco vln vsm w k) (hm:NM F N w k.s s' w1):CI F N c vco vln vsm w1 { k with s:=s' } :=
 ⟨hm.i,hm.cb h.cb,h.co.kept hm.m.below,h.ok,zaA h.ln (λj e=>hm.m.block j (zaJ h.ln j e).2.1 (zdy h.ln (by decide) j e)),zaA h.sm (λj e=>hm.m.block j (zaJ h.sm j e).2.1 (zdy h.sm (by decide) j e))⟩
theorem CI.pressed {l:List Inp} (h:CI F N c vco vln vsm w k) (hx:XP F N c vln vsm w k.s s' v' l w1) (hl:∀ x∈l,x.ok):CI F N c v' vln vsm w1 { k with s:=s',co:=l } :=
 have hn:∀ {t:TypeId} {z:Nat} {v:Value} {n:Nat} {xs:List Value},w.ownsRow N t z v n xs->t≠66->t≠93->∀ j,v.ownBlock=some j->w1.heap[j]? = w.heap[j]?:=λho h1 h2 j e =>
  hx.km.m.block j (zaJ ho j e).2.1 (λy=>y.elim (λe'=>zbc ho h.cb.blk h2 (by rw [e,e'])) (zdy ho h1 j e))
 ⟨hx.km.i,hx.cb,hx.co,hl,zaA h.ln (hn h.ln (by decide) (by decide)),zaA h.sm (hn h.sm (by decide) (by decide))⟩
def Kp (N c:Nat) (w w1:World):Prop:=∀ (j:Nat) (cs:Array Value) (t:TypeId) (fr:Nat × Nat),N<=j->j≠c->t≠66->t≠62->t≠5->w.heap[j]? = some (.cells cs t fr)->w1.heap[j]? = some (.cells cs t fr)
theorem Kp.trans {w2:World} (h:Kp N c w w1) (k:Kp N c w1 w2):Kp N c w w2:=λj cs t fr h1 h2 h3 h4 h5 h6=>k j cs t fr h1 h2 h3 h4 h5 (h j cs t fr h1 h2 h3 h4 h5 h6)
theorem Kp.of (h:Below w.heap.size w w1):Kp N c w w1:=λj cs t fr _ _ _ _ _ h6=>(h.block j (Array.getElem?_eq_some_iff.1 h6).1).trans h6
theorem Kp.set (i:Nat) (v:Value):Kp N c w (w.setCell ⟨c,i,none⟩ v):=λj cs t fr _ h2 _ _ _ h6=>(zae h2 (v:=v)).trans h6
theorem Kp.grown {t':TypeId} {z n:Nat} {v:Value} {xs:List Value} (ht:t'=62 \/ t'=5) (ho:w.ownsRow N t' z v n xs) (hg:w.grownBy w1 v.ownBlock):Kp N c w w1:=λj cs t fr _ _ _ h4 h5 h6 =>
 (hg.block j (Array.getElem?_eq_some_iff.1 h6).1 (λe=>zbc ho h6 (by rcases ht with rfl|rfl;exact λe=>h4 e.symm;exact λe=>h5 e.symm) e.symm)).trans h6
theorem NM.kp {s:Bst} (h:NM F N w s s' w1):Kp N c w w1:=λj cs t fr h1 _ h3 _ _ h6=>(h.m.block j (Array.getElem?_eq_some_iff.1 h6).1 (Tw.of (λx=>Nat.not_lt.2 h1 x) h6 h3)).trans h6
theorem KM.kp {s:Bst} (h:KM F N c w s s' w1):Kp N c w w1:=λj cs t fr h1 h2 h3 _ _ h6=>(h.m.block j (Array.getElem?_eq_some_iff.1 h6).1 (λy=>y.elim h2 (Tw.of (λx=>Nat.not_lt.2 h1 x) h6 h3))).trans h6
theorem CI.big (hF:Fb F N) (h:CI F N c vco vln vsm w k):F.B<=c:=h.cb.big h.i hF
theorem CI.bigN (hF:Fb F N) (h:CI F N c vco vln vsm w k):F.B<=N:=by
 obtain ⟨v,hB⟩:=h.i.bd
 have:=hB.nd.lo.1
 have:=hF.into.g
 omega
theorem CI.grow3 {v':Value} {xs:List UInt8} (hF:Fb F N) (h:CI F N c vco vln vsm w k) (ho:w1.ownsRow N 5 1 v' xs.length (bcs xs)) (hg:w.grownBy w1 vsm.ownBlock) :
 CI F N c vco vln v' (w1.setCell ⟨c,3,none⟩ v') { k with sm:=xs }/\Below F.B w (w1.setCell ⟨c,3,none⟩ v'):=by
 have hz:=hg.size
 have hcn:some c≠vsm.ownBlock:=λe=>zbc h.sm h.cb.blk (by decide) e.symm
 have hcb:CB F N c vco vln vsm w1:=h.cb.same (hg.block c h.cb.z hcn)
 have hb:Below F.B w w1:=(Below.refl F.B w).grown hg h.i.big (λj e=>Nat.le_trans (h.bigN hF) (zaJ h.sm j e).1)
 have hi:BI F N w1 k.s:=h.i.keep hF hz (λj hj=>hg.block j (hj.lt (λi hi=>Nat.lt_of_lt_of_le hi h.i.N)) (λe=>zdy h.sm (by decide) j e.symm hj))
 have hln:w1.ownsRow N 62 18 vln k.ln.length (lcs k.ln):=zaA h.ln (λj e=>by
  obtain ⟨_,h2,cs,h3⟩:=zaJ h.ln j e
  exact hg.block j h2 (λe'=>zbc h.sm h3 (by decide) e'.symm))
 exact ⟨⟨hi.keep hF (by rw [zao];exact Nat.le_refl _) (λj hj=>zae (λe=>hcb.out (by rw [<- e];exact hj))),hcb.put3 _,(h.co.kept hb).kept (Below.setCell (Below.refl _ _) (h.big hF) _),h.ok,zaA hln (λj e=>zae (λe'=>zbc hln hcb.blk (by decide) (by rw [e,e']))),zaA ho (λj e=>zae (λe'=>zbc ho hcb.blk (by decide) (by rw [e,e'])))⟩,hb.setCell (h.big hF) _⟩
theorem CI.grow2 {g cap:Nat} {xs:List Lin} (hF:Fb F N) (h:CI F N c vco vln vsm w k) (ho:w1.ownsRow N 62 18 (.slice (some ⟨g,0,none⟩) xs.length cap) xs.length (lcs xs)) (hg:w.grownBy w1 vln.ownBlock) :
 CI F N c vco (.slice (some ⟨g,0,none⟩) xs.length cap) vsm (w1.setCell ⟨c,2,none⟩ (.slice (some ⟨g,0,none⟩) xs.length cap)) { k with ln:=xs }/\Below F.B w (w1.setCell ⟨c,2,none⟩ (.slice (some ⟨g,0,none⟩) xs.length cap)):=by
 have hz:=hg.size
 have hcn:some c≠vln.ownBlock:=λe=>zbc h.ln h.cb.blk (by decide) e.symm
 have hcb:CB F N c vco vln vsm w1:=h.cb.same (hg.block c h.cb.z hcn)
 have hb:Below F.B w w1:=(Below.refl F.B w).grown hg h.i.big (λj e=>Nat.le_trans (h.bigN hF) (zaJ h.ln j e).1)
 have hi:BI F N w1 k.s:=h.i.keep hF hz (λj hj=>hg.block j (hj.lt (λi hi=>Nat.lt_of_lt_of_le hi h.i.N)) (λe=>zdy h.ln (by decide) j e.symm hj))
 have hsm:w1.ownsRow N 5 1 vsm k.sm.length (bcs k.sm):=zaA h.sm (λj e=>by
  obtain ⟨_,h2,cs,h3⟩:=zaJ h.sm j e
  exact hg.block j h2 (λe'=>zbc h.ln h3 (by decide) e'.symm))
 exact ⟨⟨hi.keep hF (by rw [zao];exact Nat.le_refl _) (λj hj=>zae (λe=>hcb.out (by rw [<- e];exact hj))),hcb.put2 _,(h.co.kept hb).kept (Below.setCell (Below.refl _ _) (h.big hF) _),h.ok,zaA ho (λj e=>zae (λe'=>zbc ho hcb.blk (by decide) (by rw [e,e']))),zaA hsm (λj e=>zae (λe'=>zbc hsm hcb.blk (by decide) (by rw [e,e'])))⟩,hb.setCell (h.big hF) _⟩
end
section
variable {F : Fx} {N c : Nat} {vco vln vsm v' : Value} {w w1 : World} {k : Cs} {s' : Bst}
theorem zj8 {W:World} {v:Value} {y:UInt8} (h:sliceAt W v [y]):∃ g o cap,v = .slice (some ⟨g,o,none⟩) 1 cap/\W.cell? ⟨g,o,none⟩=some (.int .u8 y.toNat)/\g<W.heap.size:=by
 rcases h with ⟨_,_,_,e⟩|⟨g,o,cap,h1,h2,h3,h4⟩
 ·cases e
 ·exact ⟨g,o,cap,h1,h4 0 y rfl,h3⟩
theorem app1G {ops:Array Oper} {rest:List Oper} {o:Oper} {a:Act} {w:World} {Q:Exit->Act->World->Prop} (hgd:o.guard=none) (s x:Operand) (ho:o.op = .call { callee:=.builtin .append,args:=#[s,x],argTypes:=#[26,26] })
 (B:Nat) (v:Value) (xs:List UInt8) (hs:a.eval s=v) (hown:w.ownsRow B 5 1 v xs.length (bcs xs)) (g o' c:Nat) (y:UInt8) (hx:a.eval x = .slice (some ⟨g,o',none⟩) 1 c) (hc:w.cell? ⟨g,o',none⟩=some (.int .u8 y.toNat)) (hl:xs.length<=100000) (hB:B<=w.heap.size)
 (h:∀ g1 cap w',w'.ownsRow B 5 1 (.slice (some ⟨g1,0,none⟩) (xs++[y]).length cap) (xs++[y]).length (bcs (xs++[y]))->w.grownBy w' v.ownBlock->g1<w'.heap.size->wpList Tryz.prog ops Q rest (a.put o.dst (.slice (some ⟨g1,0,none⟩) (xs++[y]).length cap)) w'):wpList Tryz.prog ops Q (o::rest) a w:=by
 obtain ⟨i0,hi0,hz0,hz1,hz2⟩:=info_parts za4
 have e1:(xs++[y]).length=xs.length+1:=by simp
 have e2:bcs (xs++[y])=bcs xs++[.int .u8 y.toNat]:=by simp [bcs]
 rw [e1,e2] at h
 refine wpList_append_lies w hgd s x _ ho B 5 i0 _ 1 1 Tryz.underlying26 hi0 hz0 hz1 hz2 rfl (by omega) v xs.length (bcs xs) hs hown ⟨g,o',none⟩ 1 c [.int .u8 y.toNat] hx rfl (λj u hj=>?_) (λu hu=>?_) (by omega) (by unfold maxLen;omega) (by omega) hB _ rfl (λg1 cap w' h1 h2 _ h3=>h g1 cap w' h1 h2 h3)
 ·match j,hj with
  | 0,hj =>
   simp only [List.getElem?_cons_zero,Option.some.injEq] at hj
   rw [<- hj];exact hc
  | j+1,hj=>simp at hj
 ·simp only [List.mem_singleton] at hu
  rw [hu];rfl
theorem Lk.showSample (hF:Fb F N) (h:CI F N c vco vln vsm w k) (hl:k.sm.length<=100000):Calls Tryz.prog 61 #[pt c 0] w λe w'=>e = .returned (.tuple #[])/\(∃ vsm',CI F N c vco vln vsm' w' { k with sm:=k.sm++k.s.M.sample }/\Below F.B w w')/\Kp N c w w':=by
 obtain ⟨v,hB⟩:=h.i.bd
 obtain ⟨M,hM⟩:∃ M,M=k.s.M:=⟨_,rfl⟩
 rw [<- hM] at hB ⊢
 have k0:=h.cb.bx.at 0 _ rfl
 have kz:=h.cb.z
 have mz:=hB.bx.z
 have HF:=hid hF
 have H:=hid h
 have HB:=hid hB
 have HL:=hid hl
 have HSF:Hid M.s.fit:={ hB.fit.s with w:=hB.fit.w }
 by_cases hw:M.s.w=0
 ·have m60:w.cell? ⟨F.g,60,none⟩=some (.int .i64 0):=by rw [<- hw];exact hB.at 60 (.int .i64 M.s.w) rfl
  have e0:M.sample=[sm M.s]:=by
   unfold Mach.sample
   rw [if_pos hw]
   show []++one M.s=_
   unfold one
   rw [if_pos hw];rfl
  have e1:sms M.s 1=[sm M.s]:=by
   show []++one M.s=_
   unfold one
   rw [if_pos hw];rfl
  rw [e0]
  have HE1:=hid e1
  clear hF h hB hl hM hw e0 e1
  go_enter Tryz.func61,Tryz.ntmps61
  go_upto_region 2 with (first
   | (refine wpList_load_mid rfl 36 _ rfl F.g 45 rfl (sndL M.s) _ HB.out.sndR Tryz.underlying36 rfl zaj ?_)
   | (go_at_call 65;refine (zb9 M.s 1 _ HSF.out (by decide)).mono ?_;rintro e w2 ⟨v2,rfl,hs2,_,hb2⟩;have HB2:=hid hb2;have HS2:=hid hs2;clear hs2 hb2)
   | (refine wpList_store_mid rfl 36 _ _ rfl w2.heap.size 0 (sndL (M.s.ticks 1)).toArray rfl rfl ((Bx.new w2 zs 36 (b:=w2.heap.size) rfl).there 0 16 (by simp [zs])) zaj (all16 (M.s.ticks 1)) ?_
      refine Pl.cutL (λZ=>Below w.heap.size w Z/\sliceAt Z v2 (sms M.s 1)) ⟨stp HB2.out (Bl.puts (stA (st0 w2) _) (Nat.le_refl _) _),HS2.out.kept (Bl.puts (stA (st0 w2) _) (Nat.le_refl _) _)⟩ ?_
      rintro Z ⟨hZ1,hZ2⟩
      have HZ1:=hid hZ1
      have HZ2:=hid hZ2
      clear hZ1 hZ2))
  have HC:=hid (H.out.keep HF.out HZ1.out)
  have hs1:=HZ2.out
  rw [HE1.out] at hs1
  obtain ⟨g0,o0,cap0,rfl,hcell,hgz⟩:=zj8 hs1
  have HCE:=hid hcell
  have k3:=HC.out.cb.bx.at 3 vsm rfl
  have kz2:=HC.out.cb.z
  clear hs1 hcell k0 kz mz m60
  go_wp2_with (at_builtin;refine app1G (by rfl) _ _ (by rfl) N _ k.sm (by rfl) HC.out.sm g0 o0 cap0 (sm M.s) (by rfl) HCE.out HL.out (Nat.le_trans HC.out.i.N (Nat.le_refl _)) ?_;intro g1 cap1 W1 hown1 hg1 hz1;have HO1:=hid hown1;have HG1:=hid hg1;have hcb1:=HC.out.cb.same (hg1.block c HC.out.cb.z (λe=>zbc HC.out.sm HC.out.cb.blk (by decide) e.symm));have q3:=hcb1.bx.at 3 vsm rfl;have qz:=hcb1.z;have qf:=hcb1.bx.f 3;clear hcb1 hown1 hg1)
  go_end0
  obtain ⟨r1,r2⟩:=HC.out.grow3 HF.out HO1.out HG1.out
  rw [show (k.sm++[sm M.s]).length=k.sm.length+1 by simp] at r1 r2
  exact ⟨rfl,⟨_,r1,(HZ1.out.mono H.out.i.big).trans r2⟩,(Kp.of HZ1.out).trans ((Kp.grown (Or.inr rfl) HC.out.sm HG1.out).trans (Kp.set 3 _))⟩
 ·have hw':(M.s.w == 0)=false:=by simpa using hw
  have m60:=hB.at 60 (.int .i64 M.s.w) rfl
  have e0:M.sample=[]:=if_neg hw
  rw [e0,List.append_nil]
  clear hF h hB hl e0 hM
  go_enter Tryz.func61,Tryz.ntmps61
  go_wp2
  exact bodyPost_ret (v:=.tuple #[]) (by simp [results,Tryz.results61,go_sem]) rfl ⟨rfl,⟨vsm,H.out,Below.refl _ _⟩,Kp.of (Below.refl _ _)⟩
end
end Go.Proofs.YtbennamieealbaaGreatDoor
