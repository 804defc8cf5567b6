/-
  Parts of a proof, joined.
-/
import Derived.Test.YtbennamieealbaaGreatDoorZg12
import Derived.Test.YtbennamieealbaaGreatDoorZg01
import Derived.Test.YtbennamieealbaaGreatDoorZg07
import Derived.Deep.RegionHeld3
set_option linter.unusedVariables false
set_option maxRecDepth 100000
set_option maxHeartbeats 3200000
namespace Go.Proofs.YtbennamieealbaaGreatDoor
open Go.ChangeShapes Go.WideShapes Go.ChangeAt Go.RowKit
abbrev portsV:Value:=(.agg #[.func (.func 308) #[] #[],.func (.func 310) #[] #[],.func (.func 312) #[] #[],.func (.func 313) #[] #[],.func (.func 314) #[] #[],.func (.func 307) #[] #[],.func (.func 307) #[] #[],.func (.func 307) #[] #[]])
def PortC (k g:Nat):Prop:=∀ (v:Vc) (b:Int) (w:World),v.ok->0<=b/\b<=255->Calls Tryz.prog g #[(.agg #[.int .u16 v.p,.int .u16 v.c,.int .u8 v.l,.bool v.h,.int .u16 v.n]),.int .u8 b] w λe w'=>e = .returned (.agg #[.int .u16 (v.put k b).p,.int .u16 (v.put k b).c,.int .u8 (v.put k b).l,.bool (v.put k b).h,.int .u16 (v.put k b).n])/\Below w.heap.size w w'
theorem puta (k g:Nat) (hk:k<8) (hcf:∀ (a:Array Value) (w:World),(callFunc g a).run Tryz.prog w = .ok (.enter g a) w) (hix:∀ w:World,(Instr.index 348 portsV (.int .i64 k)).run Tryz.prog w = .ok (.func (.func g) #[] #[]) w) (hpt:PortC k g) (s:Sd) (b:Int) (w:World) (h:s.ok) (hb:0<=b/\b<=255) :
 Calls Tryz.prog 223 #[(.agg #[.int .u16 s.a.p,.int .u16 s.a.c,.int .u8 s.a.l,.bool s.a.h,.int .u16 s.a.n,.int .u16 s.b.p,.int .u16 s.b.c,.int .u8 s.b.l,.bool s.b.h,.int .u16 s.b.n,.int .u16 s.c.p,.int .u16 s.c.c,.int .u8 s.c.l,.bool s.c.h,.int .u16 s.c.n,.int .i64 s.w]),.int .i64 k,.int .u8 b] w λe w'=>e = .returned (.tuple #[(.agg #[.int .u16 (⟨s.a.put k b,s.b,s.c,s.w⟩:Sd).a.p,.int .u16 (⟨s.a.put k b,s.b,s.c,s.w⟩:Sd).a.c,.int .u8 (⟨s.a.put k b,s.b,s.c,s.w⟩:Sd).a.l,.bool (⟨s.a.put k b,s.b,s.c,s.w⟩:Sd).a.h,.int .u16 (⟨s.a.put k b,s.b,s.c,s.w⟩:Sd).a.n,.int .u16 (⟨s.a.put k b,s.b,s.c,s.w⟩:Sd).b.p,.int .u16 (⟨s.a.put k b,s.b,s.c,s.w⟩:Sd).b.c,.int .u8 (⟨s.a.put k b,s.b,s.c,s.w⟩:Sd).b.l,.bool (⟨s.a.put k b,s.b,s.c,s.w⟩:Sd).b.h,.int .u16 (⟨s.a.put k b,s.b,s.c,s.w⟩:Sd).b.n,.int .u16 (⟨s.a.put k b,s.b,s.c,s.w⟩:Sd).c.p,.int .u16 (⟨s.a.put k b,s.b,s.c,s.w⟩:Sd).c.c,.int .u8 (⟨s.a.put k b,s.b,s.c,s.w⟩:Sd).c.l,.bool (⟨s.a.put k b,s.b,s.c,s.w⟩:Sd).c.h,.int .u16 (⟨s.a.put k b,s.b,s.c,s.w⟩:Sd).c.n,.int .i64 (⟨s.a.put k b,s.b,s.c,s.w⟩:Sd).w]),.int .i64 0])/\Below w.heap.size w w':=by
 unfold portsV at hix
 have HPT:=hid hpt
 have hk0:(0:Int)<=(k:Int):=by omega
 have hk24:(k:Int)<24:=by omega
 have hj0:(0:Int)<=k:=by omega
 have hj8:(k:Int)<8:=by omega
 have hq1:(k:Int)/8=0:=by omega
 have hq2:(k:Int)%8=k:=by omega
 have hq3:Int.tdiv (k:Int) 8=0:=by rw [Int.tdiv_eq_ediv_of_nonneg hk0];exact hq1
 have hq4:Int.tmod (k:Int) 8=k:=by rw [Int.tmod_eq_emod_of_nonneg hk0];exact hq2
 clear hpt
 go_enter Tryz.func223,Tryz.ntmps223
 go_upto_region 4 with fail
 go_cut [] (λwx=>SmW w ⟨s.a.put k b,s.b,s.c,s.w⟩ [] (.slice none 0 0) wx)
 case first =>
  refine Pl.cutW (SmW w s [] (.slice none 0 0)) (SmW.two w s) ?_
  intro W hW
  have HW:=hid hW
  obtain ⟨c0,c1,c2,c3,c4,tz,tf⟩:=hW.b.w0
  clear hW
  go_region_with (first
   | (go_at_call 252;refine (zdb _).mono ?_;rintro e w1 ⟨rfl,hb1⟩;have HW1:=hid (HW.out.drew.kept hb1);obtain ⟨d0,d1,d2,d3,d4,dz,df⟩:=HW1.out.b.w0)
   | (refine (HPT.out s.a b _ h.a hb).mono ?_;rintro e w2 ⟨rfl,hb2⟩;have HW2:=hid (HW1.out.kept hb2);obtain ⟨e0,e1,e2,e3,e4,ez,ef⟩:=HW2.out.b.w0))
  all_goals (go_wp2_with fail;go_meet)
  all_goals exact HW2.out.v0 _
 case rest =>
  have HT:=hid hcut
  clear hcut
  go_wp2_with (first
   | (refine wpList_load_mid rfl 36 _ rfl w.heap.size 0 rfl (scs ⟨s.a.put k b,s.b,s.c,s.w⟩) _ HT.out.b.c Tryz.underlying36 rfl zaj ?_)
   | (refine wpList_store_mid rfl 36 _ _ rfl (w.heap.size+1) 0 _ rfl rfl (there16 HT.out.r) zaj (all16 _) ?_
      refine Pl.cutL (λW=>Below w.heap.size w W/\Bx W (w.heap.size+1) (scs ⟨s.a.put k b,s.b,s.c,s.w⟩)) ⟨?_,?_⟩ ?_
      ·exact Bl.puts HT.out.low (Nat.le_succ _) _
      ·exact HT.out.r.puts 0 (scs ⟨s.a.put k b,s.b,s.c,s.w⟩) (by simp)
      rintro W ⟨hlow,hbox⟩
      have HLO:=hid hlow
      have HBX:=hid hbox
      clear hlow hbox))
  have hl:=loadS HBX.out
  refine bodyPost_ret (v:=.tuple #[(.agg #[.int .u16 (⟨s.a.put k b,s.b,s.c,s.w⟩:Sd).a.p,.int .u16 (⟨s.a.put k b,s.b,s.c,s.w⟩:Sd).a.c,.int .u8 (⟨s.a.put k b,s.b,s.c,s.w⟩:Sd).a.l,.bool (⟨s.a.put k b,s.b,s.c,s.w⟩:Sd).a.h,.int .u16 (⟨s.a.put k b,s.b,s.c,s.w⟩:Sd).a.n,.int .u16 (⟨s.a.put k b,s.b,s.c,s.w⟩:Sd).b.p,.int .u16 (⟨s.a.put k b,s.b,s.c,s.w⟩:Sd).b.c,.int .u8 (⟨s.a.put k b,s.b,s.c,s.w⟩:Sd).b.l,.bool (⟨s.a.put k b,s.b,s.c,s.w⟩:Sd).b.h,.int .u16 (⟨s.a.put k b,s.b,s.c,s.w⟩:Sd).b.n,.int .u16 (⟨s.a.put k b,s.b,s.c,s.w⟩:Sd).c.p,.int .u16 (⟨s.a.put k b,s.b,s.c,s.w⟩:Sd).c.c,.int .u8 (⟨s.a.put k b,s.b,s.c,s.w⟩:Sd).c.l,.bool (⟨s.a.put k b,s.b,s.c,s.w⟩:Sd).c.h,.int .u16 (⟨s.a.put k b,s.b,s.c,s.w⟩:Sd).c.n,.int .i64 (⟨s.a.put k b,s.b,s.c,s.w⟩:Sd).w]),.int .i64 0]) ?_ rfl ⟨rfl,HLO.out⟩
  simp only [results,Tryz.results223]
  simp
  show (Result.andThen (Sem.run Tryz.prog (loadVar 36 ⟨w.heap.size+1,0,none⟩) W) _)=_
  rw [hl]
  rfl
theorem putb (k g:Nat) (hk:k<8) (hcf:∀ (a:Array Value) (w:World),(callFunc g a).run Tryz.prog w = .ok (.enter g a) w) (hix:∀ w:World,(Instr.index 348 portsV (.int .i64 k)).run Tryz.prog w = .ok (.func (.func g) #[] #[]) w) (hpt:PortC k g) (s:Sd) (b:Int) (w:World) (h:s.ok) (hb:0<=b/\b<=255) :
 Calls Tryz.prog 223 #[(.agg #[.int .u16 s.a.p,.int .u16 s.a.c,.int .u8 s.a.l,.bool s.a.h,.int .u16 s.a.n,.int .u16 s.b.p,.int .u16 s.b.c,.int .u8 s.b.l,.bool s.b.h,.int .u16 s.b.n,.int .u16 s.c.p,.int .u16 s.c.c,.int .u8 s.c.l,.bool s.c.h,.int .u16 s.c.n,.int .i64 s.w]),.int .i64 ((8:Int)+k),.int .u8 b] w λe w'=>e = .returned (.tuple #[(.agg #[.int .u16 (⟨s.a,s.b.put k b,s.c,s.w⟩:Sd).a.p,.int .u16 (⟨s.a,s.b.put k b,s.c,s.w⟩:Sd).a.c,.int .u8 (⟨s.a,s.b.put k b,s.c,s.w⟩:Sd).a.l,.bool (⟨s.a,s.b.put k b,s.c,s.w⟩:Sd).a.h,.int .u16 (⟨s.a,s.b.put k b,s.c,s.w⟩:Sd).a.n,.int .u16 (⟨s.a,s.b.put k b,s.c,s.w⟩:Sd).b.p,.int .u16 (⟨s.a,s.b.put k b,s.c,s.w⟩:Sd).b.c,.int .u8 (⟨s.a,s.b.put k b,s.c,s.w⟩:Sd).b.l,.bool (⟨s.a,s.b.put k b,s.c,s.w⟩:Sd).b.h,.int .u16 (⟨s.a,s.b.put k b,s.c,s.w⟩:Sd).b.n,.int .u16 (⟨s.a,s.b.put k b,s.c,s.w⟩:Sd).c.p,.int .u16 (⟨s.a,s.b.put k b,s.c,s.w⟩:Sd).c.c,.int .u8 (⟨s.a,s.b.put k b,s.c,s.w⟩:Sd).c.l,.bool (⟨s.a,s.b.put k b,s.c,s.w⟩:Sd).c.h,.int .u16 (⟨s.a,s.b.put k b,s.c,s.w⟩:Sd).c.n,.int .i64 (⟨s.a,s.b.put k b,s.c,s.w⟩:Sd).w]),.int .i64 0])/\Below w.heap.size w w':=by
 unfold portsV at hix
 have HPT:=hid hpt
 have hk0:(0:Int)<=((8:Int)+k):=by omega
 have hk24:((8:Int)+k)<24:=by omega
 have hj0:(0:Int)<=k:=by omega
 have hj8:(k:Int)<8:=by omega
 have hq1:((8:Int)+k)/8=1:=by omega
 have hq2:((8:Int)+k)%8=k:=by omega
 have hq3:Int.tdiv ((8:Int)+k) 8=1:=by rw [Int.tdiv_eq_ediv_of_nonneg hk0];exact hq1
 have hq4:Int.tmod ((8:Int)+k) 8=k:=by rw [Int.tmod_eq_emod_of_nonneg hk0];exact hq2
 clear hpt
 go_enter Tryz.func223,Tryz.ntmps223
 go_upto_region 4 with fail
 go_cut [] (λwx=>SmW w ⟨s.a,s.b.put k b,s.c,s.w⟩ [] (.slice none 0 0) wx)
 case first =>
  refine Pl.cutW (SmW w s [] (.slice none 0 0)) (SmW.two w s) ?_
  intro W hW
  have HW:=hid hW
  obtain ⟨c0,c1,c2,c3,c4,tz,tf⟩:=hW.b.w1
  clear hW
  go_region_with (first
   | (go_at_call 252;refine (zdb _).mono ?_;rintro e w1 ⟨rfl,hb1⟩;have HW1:=hid (HW.out.drew.kept hb1);obtain ⟨d0,d1,d2,d3,d4,dz,df⟩:=HW1.out.b.w1)
   | (refine (HPT.out s.b b _ h.b hb).mono ?_;rintro e w2 ⟨rfl,hb2⟩;have HW2:=hid (HW1.out.kept hb2);obtain ⟨e0,e1,e2,e3,e4,ez,ef⟩:=HW2.out.b.w1))
  all_goals (go_wp2_with fail;go_meet)
  all_goals exact HW2.out.v1 _
 case rest =>
  have HT:=hid hcut
  clear hcut
  go_wp2_with (first
   | (refine wpList_load_mid rfl 36 _ rfl w.heap.size 0 rfl (scs ⟨s.a,s.b.put k b,s.c,s.w⟩) _ HT.out.b.c Tryz.underlying36 rfl zaj ?_)
   | (refine wpList_store_mid rfl 36 _ _ rfl (w.heap.size+1) 0 _ rfl rfl (there16 HT.out.r) zaj (all16 _) ?_
      refine Pl.cutL (λW=>Below w.heap.size w W/\Bx W (w.heap.size+1) (scs ⟨s.a,s.b.put k b,s.c,s.w⟩)) ⟨?_,?_⟩ ?_
      ·exact Bl.puts HT.out.low (Nat.le_succ _) _
      ·exact HT.out.r.puts 0 (scs ⟨s.a,s.b.put k b,s.c,s.w⟩) (by simp)
      rintro W ⟨hlow,hbox⟩
      have HLO:=hid hlow
      have HBX:=hid hbox
      clear hlow hbox))
  have hl:=loadS HBX.out
  refine bodyPost_ret (v:=.tuple #[(.agg #[.int .u16 (⟨s.a,s.b.put k b,s.c,s.w⟩:Sd).a.p,.int .u16 (⟨s.a,s.b.put k b,s.c,s.w⟩:Sd).a.c,.int .u8 (⟨s.a,s.b.put k b,s.c,s.w⟩:Sd).a.l,.bool (⟨s.a,s.b.put k b,s.c,s.w⟩:Sd).a.h,.int .u16 (⟨s.a,s.b.put k b,s.c,s.w⟩:Sd).a.n,.int .u16 (⟨s.a,s.b.put k b,s.c,s.w⟩:Sd).b.p,.int .u16 (⟨s.a,s.b.put k b,s.c,s.w⟩:Sd).b.c,.int .u8 (⟨s.a,s.b.put k b,s.c,s.w⟩:Sd).b.l,.bool (⟨s.a,s.b.put k b,s.c,s.w⟩:Sd).b.h,.int .u16 (⟨s.a,s.b.put k b,s.c,s.w⟩:Sd).b.n,.int .u16 (⟨s.a,s.b.put k b,s.c,s.w⟩:Sd).c.p,.int .u16 (⟨s.a,s.b.put k b,s.c,s.w⟩:Sd).c.c,.int .u8 (⟨s.a,s.b.put k b,s.c,s.w⟩:Sd).c.l,.bool (⟨s.a,s.b.put k b,s.c,s.w⟩:Sd).c.h,.int .u16 (⟨s.a,s.b.put k b,s.c,s.w⟩:Sd).c.n,.int .i64 (⟨s.a,s.b.put k b,s.c,s.w⟩:Sd).w]),.int .i64 0]) ?_ rfl ⟨rfl,HLO.out⟩
  simp only [results,Tryz.results223]
  simp
  show (Result.andThen (Sem.run Tryz.prog (loadVar 36 ⟨w.heap.size+1,0,none⟩) W) _)=_
  rw [hl]
  rfl
theorem putc (k g:Nat) (hk:k<8) (hcf:∀ (a:Array Value) (w:World),(callFunc g a).run Tryz.prog w = .ok (.enter g a) w) (hix:∀ w:World,(Instr.index 348 portsV (.int .i64 k)).run Tryz.prog w = .ok (.func (.func g) #[] #[]) w) (hpt:PortC k g) (s:Sd) (b:Int) (w:World) (h:s.ok) (hb:0<=b/\b<=255) :
 Calls Tryz.prog 223 #[(.agg #[.int .u16 s.a.p,.int .u16 s.a.c,.int .u8 s.a.l,.bool s.a.h,.int .u16 s.a.n,.int .u16 s.b.p,.int .u16 s.b.c,.int .u8 s.b.l,.bool s.b.h,.int .u16 s.b.n,.int .u16 s.c.p,.int .u16 s.c.c,.int .u8 s.c.l,.bool s.c.h,.int .u16 s.c.n,.int .i64 s.w]),.int .i64 ((16:Int)+k),.int .u8 b] w λe w'=>e = .returned (.tuple #[(.agg #[.int .u16 (⟨s.a,s.b,s.c.put k b,s.w⟩:Sd).a.p,.int .u16 (⟨s.a,s.b,s.c.put k b,s.w⟩:Sd).a.c,.int .u8 (⟨s.a,s.b,s.c.put k b,s.w⟩:Sd).a.l,.bool (⟨s.a,s.b,s.c.put k b,s.w⟩:Sd).a.h,.int .u16 (⟨s.a,s.b,s.c.put k b,s.w⟩:Sd).a.n,.int .u16 (⟨s.a,s.b,s.c.put k b,s.w⟩:Sd).b.p,.int .u16 (⟨s.a,s.b,s.c.put k b,s.w⟩:Sd).b.c,.int .u8 (⟨s.a,s.b,s.c.put k b,s.w⟩:Sd).b.l,.bool (⟨s.a,s.b,s.c.put k b,s.w⟩:Sd).b.h,.int .u16 (⟨s.a,s.b,s.c.put k b,s.w⟩:Sd).b.n,.int .u16 (⟨s.a,s.b,s.c.put k b,s.w⟩:Sd).c.p,.int .u16 (⟨s.a,s.b,s.c.put k b,s.w⟩:Sd).c.c,.int .u8 (⟨s.a,s.b,s.c.put k b,s.w⟩:Sd).c.l,.bool (⟨s.a,s.b,s.c.put k b,s.w⟩:Sd).c.h,.int .u16 (⟨s.a,s.b,s.c.put k b,s.w⟩:Sd).c.n,.int .i64 (⟨s.a,s.b,s.c.put k b,s.w⟩:Sd).w]),.int .i64 0])/\Below w.heap.size w w':=by
 unfold portsV at hix
 have HPT:=hid hpt
 have hk0:(0:Int)<=((16:Int)+k):=by omega
 have hk24:((16:Int)+k)<24:=by omega
 have hj0:(0:Int)<=k:=by omega
 have hj8:(k:Int)<8:=by omega
 have hq1:((16:Int)+k)/8=2:=by omega
 have hq2:((16:Int)+k)%8=k:=by omega
 have hq3:Int.tdiv ((16:Int)+k) 8=2:=by rw [Int.tdiv_eq_ediv_of_nonneg hk0];exact hq1
 have hq4:Int.tmod ((16:Int)+k) 8=k:=by rw [Int.tmod_eq_emod_of_nonneg hk0];exact hq2
 clear hpt
 go_enter Tryz.func223,Tryz.ntmps223
 go_upto_region 4 with fail
 go_cut [] (λwx=>SmW w ⟨s.a,s.b,s.c.put k b,s.w⟩ [] (.slice none 0 0) wx)
 case first =>
  refine Pl.cutW (SmW w s [] (.slice none 0 0)) (SmW.two w s) ?_
  intro W hW
  have HW:=hid hW
  obtain ⟨c0,c1,c2,c3,c4,tz,tf⟩:=hW.b.w2
  clear hW
  go_region_with (first
   | (go_at_call 252;refine (zdb _).mono ?_;rintro e w1 ⟨rfl,hb1⟩;have HW1:=hid (HW.out.drew.kept hb1);obtain ⟨d0,d1,d2,d3,d4,dz,df⟩:=HW1.out.b.w2)
   | (refine (HPT.out s.c b _ h.c hb).mono ?_;rintro e w2 ⟨rfl,hb2⟩;have HW2:=hid (HW1.out.kept hb2);obtain ⟨e0,e1,e2,e3,e4,ez,ef⟩:=HW2.out.b.w2))
  all_goals (go_wp2_with fail;go_meet)
  all_goals exact HW2.out.v2 _
 case rest =>
  have HT:=hid hcut
  clear hcut
  go_wp2_with (first
   | (refine wpList_load_mid rfl 36 _ rfl w.heap.size 0 rfl (scs ⟨s.a,s.b,s.c.put k b,s.w⟩) _ HT.out.b.c Tryz.underlying36 rfl zaj ?_)
   | (refine wpList_store_mid rfl 36 _ _ rfl (w.heap.size+1) 0 _ rfl rfl (there16 HT.out.r) zaj (all16 _) ?_
      refine Pl.cutL (λW=>Below w.heap.size w W/\Bx W (w.heap.size+1) (scs ⟨s.a,s.b,s.c.put k b,s.w⟩)) ⟨?_,?_⟩ ?_
      ·exact Bl.puts HT.out.low (Nat.le_succ _) _
      ·exact HT.out.r.puts 0 (scs ⟨s.a,s.b,s.c.put k b,s.w⟩) (by simp)
      rintro W ⟨hlow,hbox⟩
      have HLO:=hid hlow
      have HBX:=hid hbox
      clear hlow hbox))
  have hl:=loadS HBX.out
  refine bodyPost_ret (v:=.tuple #[(.agg #[.int .u16 (⟨s.a,s.b,s.c.put k b,s.w⟩:Sd).a.p,.int .u16 (⟨s.a,s.b,s.c.put k b,s.w⟩:Sd).a.c,.int .u8 (⟨s.a,s.b,s.c.put k b,s.w⟩:Sd).a.l,.bool (⟨s.a,s.b,s.c.put k b,s.w⟩:Sd).a.h,.int .u16 (⟨s.a,s.b,s.c.put k b,s.w⟩:Sd).a.n,.int .u16 (⟨s.a,s.b,s.c.put k b,s.w⟩:Sd).b.p,.int .u16 (⟨s.a,s.b,s.c.put k b,s.w⟩:Sd).b.c,.int .u8 (⟨s.a,s.b,s.c.put k b,s.w⟩:Sd).b.l,.bool (⟨s.a,s.b,s.c.put k b,s.w⟩:Sd).b.h,.int .u16 (⟨s.a,s.b,s.c.put k b,s.w⟩:Sd).b.n,.int .u16 (⟨s.a,s.b,s.c.put k b,s.w⟩:Sd).c.p,.int .u16 (⟨s.a,s.b,s.c.put k b,s.w⟩:Sd).c.c,.int .u8 (⟨s.a,s.b,s.c.put k b,s.w⟩:Sd).c.l,.bool (⟨s.a,s.b,s.c.put k b,s.w⟩:Sd).c.h,.int .u16 (⟨s.a,s.b,s.c.put k b,s.w⟩:Sd).c.n,.int .i64 (⟨s.a,s.b,s.c.put k b,s.w⟩:Sd).w]),.int .i64 0]) ?_ rfl ⟨rfl,HLO.out⟩
  simp only [results,Tryz.results223]
  simp
  show (Result.andThen (Sem.run Tryz.prog (loadVar 36 ⟨w.heap.size+1,0,none⟩) W) _)=_
  rw [hl]
  rfl
theorem zk2 (k:Nat) (hk:k<8):∃ g:Nat,(∀ (a:Array Value) (w:World),(callFunc g a).run Tryz.prog w = .ok (.enter g a) w)/\(∀ w:World,(Instr.index 348 portsV (.int .i64 k)).run Tryz.prog w = .ok (.func (.func g) #[] #[]) w)/\PortC k g:=by
 have hc:k=0 \/ k=1 \/ k=2 \/ k=3 \/ k=4 \/ k=5 \/ k=6 \/ k=7:=by omega
 rcases hc with rfl|rfl|rfl|rfl|rfl|rfl|rfl|rfl
 ·exact ⟨308,λ_ _=>rfl,λw=>zkR _ _ _ _ _ _ _ _ w,zn6⟩
 ·exact ⟨310,λ_ _=>rfl,λw=>zkS _ _ _ _ _ _ _ _ w,zn7⟩
 ·exact ⟨312,λ_ _=>rfl,λw=>zkT _ _ _ _ _ _ _ _ w,zn8⟩
 ·exact ⟨313,λ_ _=>rfl,λw=>zkU _ _ _ _ _ _ _ _ w,zn9⟩
 ·exact ⟨314,λ_ _=>rfl,λw=>zkV _ _ _ _ _ _ _ _ w,zoa⟩
 ·exact ⟨307,λ_ _=>rfl,λw=>zkW _ _ _ _ _ _ _ _ w,λv b w _ _=>zkZ v b w⟩
 ·exact ⟨307,λ_ _=>rfl,λw=>zkX _ _ _ _ _ _ _ _ w,λv b w _ _=>zk0 v b w⟩
 ·exact ⟨307,λ_ _=>rfl,λw=>zkY _ _ _ _ _ _ _ _ w,λv b w _ _=>zk1 v b w⟩
theorem zmX (s:Sd) (k:Nat) (b:Int) (w:World) (hk:k<24) (h:s.ok) (hb:0<=b/\b<=255) :
 Calls Tryz.prog 223 #[(.agg #[.int .u16 s.a.p,.int .u16 s.a.c,.int .u8 s.a.l,.bool s.a.h,.int .u16 s.a.n,.int .u16 s.b.p,.int .u16 s.b.c,.int .u8 s.b.l,.bool s.b.h,.int .u16 s.b.n,.int .u16 s.c.p,.int .u16 s.c.c,.int .u8 s.c.l,.bool s.c.h,.int .u16 s.c.n,.int .i64 s.w]),.int .i64 k,.int .u8 b] w λe w'=>e = .returned (.tuple #[(.agg #[.int .u16 (s.put k b).a.p,.int .u16 (s.put k b).a.c,.int .u8 (s.put k b).a.l,.bool (s.put k b).a.h,.int .u16 (s.put k b).a.n,.int .u16 (s.put k b).b.p,.int .u16 (s.put k b).b.c,.int .u8 (s.put k b).b.l,.bool (s.put k b).b.h,.int .u16 (s.put k b).b.n,.int .u16 (s.put k b).c.p,.int .u16 (s.put k b).c.c,.int .u8 (s.put k b).c.l,.bool (s.put k b).c.h,.int .u16 (s.put k b).c.n,.int .i64 (s.put k b).w]),.int .i64 0])/\Below w.heap.size w w':=by
 obtain ⟨g,h1,h2,h3⟩:=zk2 (k%8) (by omega)
 by_cases ha:k<8
 ·have e:s.put k b=⟨s.a.put (k%8) b,s.b,s.c,s.w⟩:=if_pos ha
  have ek:((k%8:Nat):Int)=k:=by omega
  have hp:=puta (k%8) g (by omega) h1 h2 h3 s b w h hb
  rw [ek] at hp
  rw [e];exact hp
 ·by_cases hc:k<16
  ·have e:s.put k b=⟨s.a,s.b.put (k%8) b,s.c,s.w⟩:=(if_neg ha).trans (if_pos hc)
   have ek:(8:Int)+((k%8:Nat):Int)=k:=by omega
   have hp:=putb (k%8) g (by omega) h1 h2 h3 s b w h hb
   rw [ek] at hp
   rw [e];exact hp
  ·have e:s.put k b=⟨s.a,s.b,s.c.put (k%8) b,s.w⟩:=(if_neg ha).trans (if_neg hc)
   have ek:(16:Int)+((k%8:Nat):Int)=k:=by omega
   have hp:=putc (k%8) g (by omega) h1 h2 h3 s b w h hb
   rw [ek] at hp
   rw [e];exact hp
section
variable {F : Fx} {W : World} {M M' : Mach} {tk : Tk}
theorem Vc.put_ok {v:Vc} (h:v.ok) (k:Nat) (b:Int) (hb:0<=b/\b<=255):(v.put k b).ok:=by
 obtain ⟨h1,h2,h3,h4⟩:=h
 unfold Vc.put
 split
 ·exact ⟨by show 0<=b*256+v.p%256/\b*256+v.p%256<=65535;omega,h2,h3,h4⟩
 ·split
  ·exact ⟨by show 0<=v.p/256*256+b/\v.p/256*256+b<=65535;omega,h2,h3,h4⟩
  ·split
   ·exact ⟨h1,h2,by show 0<=b%16/\b%16<=255;omega,h4⟩
   ·split
    ·exact ⟨h1,h2,h3,by show 0<=b*256+v.n%256/\b*256+v.n%256<=65535;omega⟩
    ·split
     ·exact ⟨h1,h2,h3,by show 0<=v.n/256*256+b/\v.n/256*256+b<=65535;omega⟩
     ·exact ⟨h1,h2,h3,h4⟩
theorem Sd.put_ok {s:Sd} (h:s.ok) (k:Nat) (b:Int) (hb:0<=b/\b<=255):(s.put k b).ok:=by
 unfold Sd.put
 split
 ·exact ⟨Vc.put_ok h.a _ _ hb,h.b,h.c⟩
 ·split
  ·exact ⟨h.a,Vc.put_ok h.b _ _ hb,h.c⟩
  ·exact ⟨h.a,h.b,Vc.put_ok h.c _ _ hb⟩
theorem Sd.put_w (s:Sd) (k:Nat) (b:Int):(s.put k b).w=s.w:=by
 unfold Sd.put
 split
 ·rfl
 ·split <;> rfl
theorem Bd.snd (h:Bd F W M tk):W.cell? ⟨F.g,45,none⟩=some (.int .u16 M.s.a.p)/\W.cell? ⟨F.g,46,none⟩=some (.int .u16 M.s.a.c)/\W.cell? ⟨F.g,47,none⟩=some (.int .u8 M.s.a.l)/\W.cell? ⟨F.g,48,none⟩=some (.bool M.s.a.h)/\W.cell? ⟨F.g,49,none⟩=some (.int .u16 M.s.a.n)/\W.cell? ⟨F.g,50,none⟩=some (.int .u16 M.s.b.p)/\W.cell? ⟨F.g,51,none⟩=some (.int .u16 M.s.b.c)/\W.cell? ⟨F.g,52,none⟩=some (.int .u8 M.s.b.l)/\W.cell? ⟨F.g,53,none⟩=some (.bool M.s.b.h)/\W.cell? ⟨F.g,54,none⟩=some (.int .u16 M.s.b.n)/\W.cell? ⟨F.g,55,none⟩=some (.int .u16 M.s.c.p)/\W.cell? ⟨F.g,56,none⟩=some (.int .u16 M.s.c.c)/\W.cell? ⟨F.g,57,none⟩=some (.int .u8 M.s.c.l)/\W.cell? ⟨F.g,58,none⟩=some (.bool M.s.c.h)/\W.cell? ⟨F.g,59,none⟩=some (.int .u16 M.s.c.n)/\W.cell? ⟨F.g,60,none⟩=some (.int .i64 M.s.w)/\(∀ o,W.frozen? ⟨F.g,o,none⟩=false)/\F.g<W.heap.size :=
 ⟨h.at 45 _ rfl,h.at 46 _ rfl,h.at 47 _ rfl,h.at 48 _ rfl,h.at 49 _ rfl,h.at 50 _ rfl,h.at 51 _ rfl,h.at 52 _ rfl,h.at 53 _ rfl,h.at 54 _ rfl,h.at 55 _ rfl,h.at 56 _ rfl,h.at 57 _ rfl,h.at 58 _ rfl,h.at 59 _ rfl,h.at 60 _ rfl,h.bx.f,h.bx.z⟩
theorem Bd.sndR (h:Bd F W M tk):W.rangeAt F.g 45 (sndL M.s):=λi v hi=>by
 have hl:=(List.getElem?_eq_some_iff.1 hi).1
 obtain ⟨d0,d1,d2,d3,d4,d5,d6,d7,d8,d9,da,db,dc,dd,de,df,_,_⟩:=h.snd
 have hc:i=0 \/ i=1 \/ i=2 \/ i=3 \/ i=4 \/ i=5 \/ i=6 \/ i=7 \/ i=8 \/ i=9 \/ i=10 \/ i=11 \/ i=12 \/ i=13 \/ i=14 \/ i=15:=by simp [sndL] at hl;omega
 rcases hc with rfl|rfl|rfl|rfl|rfl|rfl|rfl|rfl|rfl|rfl|rfl|rfl|rfl|rfl|rfl|rfl <;> (cases hi;assumption)
theorem zbV:(Tryz.prog.info? 66).map (λi=>(i.zero,i.size,i.bytes))=some (some (.agg #[.int .i64 0,.int .i64 0,.int .u8 0]),3,24):=by kernel_rfl
theorem Bd.off_new (h:Bd F W M tk):F.off W.heap.size :=
 ⟨λht=>h.fresh ht,λe=>by have:=h.mr.lt _ e;omega,λe=>by have:=h.ar.lt _ e;omega,λx u hx e=>by have:=(h.env x u hx).1;omega⟩
theorem putW (F:Fx) (M:Mach) (tk:Tk) (l:List Wt) (v:Value):(F.cells M tk).set 76 v=F.cells M (tk.app l v):=rfl
theorem Bd.wrote (h:Bd F W M tk) {w3:World} {x:Wt} {gg cap:Nat} (hg:W.grownBy w3 tk.v.ownBlock) (hown:w3.ownsRow F.B 66 3 (.slice (some ⟨gg,0,none⟩) (tk.l.length+1) cap) (tk.l.length+1) (wcs tk.l++[.int .i64 x.c,.int .i64 x.a,.int .u8 x.v])) (hat:tk.v.ownBlock=some gg \/ gg=W.heap.size) :
 Bd F (w3.setCell ⟨F.g,76,none⟩ (.slice (some ⟨gg,0,none⟩) (tk.l.length+1) cap)) M (tk.app [x] (.slice (some ⟨gg,0,none⟩) (tk.l.length+1) cap))/\Bw F W (w3.setCell ⟨F.g,76,none⟩ (.slice (some ⟨gg,0,none⟩) (tk.l.length+1) cap)):=by
 have hoff:F.off gg:=by
  rcases hat with e|e
  ·exact h.wd gg e
  ·rw [e];exact h.off_new
 have hne:∀ j,j<W.heap.size->F.T j->w3.heap[j]? = W.heap[j]?:=λj hj ht=>hg.block j hj (λe=>(h.wd j e.symm).1 ht)
 have hz:W.heap.size<=w3.heap.size:=hg.size
 have hz2:W.heap.size<=(w3.setCell ⟨F.g,76,none⟩ (.slice (some ⟨gg,0,none⟩) (tk.l.length+1) cap)).heap.size:=by rw [zao];exact hz
 obtain ⟨d1,d2,d3,_⟩:=h.nd.d
 have n1:=λe=>h.nd.mr (Or.inl e)
 have n2:=λe=>h.nd.ar (Or.inl e)
 have hb:Bd F (w3.setCell ⟨F.g,76,none⟩ (.slice (some ⟨gg,0,none⟩) (tk.l.length+1) cap)) M (tk.app [x] (.slice (some ⟨gg,0,none⟩) (tk.l.length+1) cap)):=by
  refine ⟨putW F M tk [x] _ ▸ (h.bx.same hz (hne _ h.bx.z (Or.inl rfl))).set 76 _ (by rw [F.len];omega),?_,?_,?_,?_,?_,λy u hy=>?_,h.nd,h.fit,Nat.le_trans h.big hz2,?_,?_⟩
  ·refine (h.mr.same2 hz (λj e hj=>hg.block j hj (λe2=>(h.wd j e2.symm).2.1 e))).same (by rw [zao];exact Nat.le_refl _) (λ_=>zae n1)
  ·refine (h.ar.same2 hz (λj e hj=>hg.block j hj (λe2=>(h.wd j e2.symm).2.2.1 e))).same (by rw [zao];exact Nat.le_refl _) (λ_=>zae n2)
  ·exact (h.ra.same hz (λhk=>hne _ hk (Or.inr (Or.inl rfl)))).same (by rw [zao];exact Nat.le_refl _) (λ_=>zae (Ne.symm d1))
  ·exact (h.ow.same hz (λhk=>hne _ hk (Or.inr (Or.inr (Or.inl rfl))))).same (by rw [zao];exact Nat.le_refl _) (λ_=>zae (Ne.symm d2))
  ·exact (h.vi.same hz (λhk=>hne _ hk (Or.inr (Or.inr (Or.inr rfl))))).same (by rw [zao];exact Nat.le_refl _) (λ_=>zae (Ne.symm d3))
  ·obtain ⟨e1,e2⟩:=h.env y u hy
   have hn:y≠F.g:=λe=>h.nd.env y u hy (Or.inl e)
   exact ⟨Nat.lt_of_lt_of_le e1 hz2,((World.cell?_of_block (w:=w3) (zae hn)).trans (World.cell?_of_block (w:=W) (hg.block y e1 (λe=>(h.wd y e.symm).2.2.2 y u hy rfl)))).trans e2⟩
  ·refine zaA (w:=w3) ?_ (λj e=>zae (λe2=>?_))
   ·show w3.ownsRow F.B 66 3 _ (tk.l++[x]).length (wcs (tk.l++[x]))
    rw [List.length_append,zgg]
    exact hown
   ·have ej:gg=j:=by cases e;rfl
    exact hoff.1 (by rw [ej,e2];exact Or.inl rfl)
  ·intro j e
   have ej:gg=j:=by cases e;rfl
   rw [<- ej];exact hoff
 refine ⟨hb,(Bw.grown h hg).trans (Bt.w (Bt.set h.nd (Bt.refl F w3) 76 _))⟩
theorem zmY (h:Bd F W M tk):∃ ua uc,tk.v = .slice ua tk.l.length uc:=by
 rcases h.ws.2 with ⟨e,e2⟩|⟨g,cap,cur,e,_⟩
 ·exact ⟨none,0,by rw [e,e2]⟩
 ·exact ⟨_,_,e⟩
theorem zhn (h:Bd F W M tk) (k:Nat) (hk:k<24) (n:Int) (hn:0<=n/\n<=255) (hl:tk.l.length<=1000000000):Calls Tryz.prog 222 #[.int .u8 n,pt (F.E.sb k) 0,pt (F.E.sa k) 0] W λe w'=>e = .returned (.tuple #[])/\EndA F W w' { M with s:=M.s.put k n } tk [⟨M.clock,k,n⟩]:=by
 have hg:=h.bx.z
 obtain ⟨y1,e1⟩:=h.env _ _ (.sb k hk)
 obtain ⟨y2,e2⟩:=h.env _ _ (.sa k hk)
 have hs:=h.fit.s
 have hn1:F.E.sb k≠F.g:=λe=>h.nd.env _ _ (.sb k hk) (Or.inl e)
 have hn2:F.E.sa k≠F.g:=λe=>h.nd.env _ _ (.sa k hk) (Or.inl e)
 have H:=hid h
 clear h
 go_enter Tryz.func222,Tryz.ntmps222
 go_upto_region 0 with fail
 go_cut [] (λY=>Bd F Y { M with s:=M.s.put k n } tk/\Bt F W Y)
 case first =>
  refine wp_region_held_drew (S:=λw'=>w'.cell? ⟨F.E.sb k,0,none⟩=some (pt F.g 0)/\w'.cell? ⟨F.E.sa k,0,none⟩=some (.int .i64 k)) (by kernel_rfl) ⟨e1,e2⟩ ?_
  intro hS
  refine tqK 0 ⟨some 5,_,_,_,_,none⟩ hS ?_
  simp only [Act.put,xA,xB,xC]
  refine tqK 1 ⟨some 6,_,_,_,_,none⟩ hS ?_
  simp only [Act.put,xA,xB,xC]
  refine tqK 2 ⟨some 7,_,_,_,_,none⟩ hS ?_
  simp only [Act.put,xA,xB,xC]
  refine tqK 3 ⟨some 8,_,_,_,_,none⟩ hS ?_
  simp only [Act.put,xA,xB,xC]
  refine tqK 4 ⟨some 9,_,_,_,_,none⟩ hS ?_
  simp only [Act.put,xA,xB,xC]
  refine tqK 6 ⟨some 11,_,_,_,_,none⟩ hS ?_
  simp only [Act.put,xA,xB,xC]
  refine tqK 7 ⟨some 12,_,_,_,_,none⟩ hS ?_
  simp only [Act.put,xA,xB,xC]
  refine wpAnyH_ready (rs:=[5]) (by kernel_rfl) (by simp) ?_
  refine AllReadyH.cons (o:=⟨some 10,_,_,_,_,none⟩) rfl (λK hK=>?_) AllReadyH.nil
  refine ze5 rfl 36 _ rfl F.g 45 rfl (sndL M.s) _ H.out.drew.sndR Tryz.underlying36 rfl zaj ?_
  refine hK.out _ _ hS (λ_=>?_)
  clear hK K
  simp only [Act.put,xA,xB,xC]
  refine wpAnyH_ready (rs:=[8]) (by kernel_rfl) (by simp) ?_
  refine AllReadyH.cons (o:=⟨some 13,_,_,_,_,none⟩) rfl (λK hK=>?_) AllReadyH.nil
  unfold sndL
  go_simp
  go_at_call 223
  refine (zmX M.s k n _ hk hs hn).mono ?_
  rintro e w1 ⟨rfl,hb1⟩
  try go_wp2_with fail
  have HB1:=hid (H.out.drew.kept hb1)
  refine hK.out _ _ ⟨(HB1.out.env _ _ (.sb k hk)).2,(HB1.out.env _ _ (.sa k hk)).2⟩ (λhS'=>?_)
  clear hK K hS
  have hS:=hS'
  clear hS'
  try simp only [Act.put,xA,xB,xC]
  refine tqK 9 ⟨some 4,_,_,_,_,none⟩ hS ?_
  simp only [Act.put,xA,xB,xC]
  refine tqK 10 ⟨some 14,_,_,_,_,none⟩ hS ?_
  simp only [Act.put,xA,xB,xC]
  refine tqK 11 ⟨some 15,_,_,_,_,none⟩ hS ?_
  simp only [Act.put,xA,xB,xC]
  refine tqK 12 ⟨some 16,_,_,_,_,none⟩ hS ?_
  simp only [Act.put,xA,xB,xC]
  refine tqK 13 ⟨some 17,_,_,_,_,none⟩ hS ?_
  simp only [Act.put,xA,xB,xC]
  refine tqK 14 ⟨some 18,_,_,_,_,none⟩ hS ?_
  simp only [Act.put,xA,xB,xC]
  refine wpAnyH_ready (rs:=[15]) (by kernel_rfl) (by simp) ?_
  refine AllReadyH.cons (o:=⟨none,_,_,_,_,none⟩) rfl (λK hK=>?_) AllReadyH.nil
  refine zam rfl 36 _ _ rfl F.g 45 (sndL (M.s.put k n)).toArray rfl rfl (Bx.there HB1.out.bx 45 16 (by rw [Fx.len];omega)) zaj (all16 (M.s.put k n)) ?_
  refine hK.out _ _ ⟨(World.cell?_of_block (zag hn1 _ _ _)).trans hS.1,(World.cell?_of_block (zag hn2 _ _ _)).trans hS.2⟩ (λ_=>?_)
  clear hK K
  refine wpAnyH_done (by kernel_rfl) ?_ _
  have hf:Mach.fit { M with s:=M.s.put k n }:=Mach.fit.of H.out.fit { H.out.fit with main:=H.out.fit.main,s:=Sd.put_ok H.out.fit.s k n hn } ⟨rfl,rfl,rfl,rfl,rfl⟩ (Sd.put_w _ _ _) ⟨rfl,rfl,rfl⟩ ⟨rfl,rfl⟩ (Or.inl rfl)
  have hp:=HB1.out.puts (M':={ M with s:=M.s.put k n }) (tk':=tk) 45 (sndL (M.s.put k n)) (by simp [sndL]) (F.putSnd M tk _) ⟨rfl,rfl,rfl,rfl,rfl⟩ hf
  have ht:=Bt.sets H.out.nd (sndL (M.s.put k n)) 45 _ (Bt.below H.out (stp (st0 W).drew hb1))
  go_simp
  rename_i hM _ _
  refine hM _ _ ?_
  go_meet
  exact ⟨hp,ht⟩
 case rest =>
 obtain ⟨hY1,hY2⟩:=hcut
 have HY1:=hid hY1
 have HY2:=hid hY2
 have z1:=(HY1.out.env _ _ (.sb k hk)).1
 have q1:=(HY1.out.env _ _ (.sb k hk)).2
 have z2:=(HY1.out.env _ _ (.sa k hk)).1
 have q2:=(HY1.out.env _ _ (.sa k hk)).2
 have zg:=HY1.out.bx.z
 obtain ⟨ua,uc,hv⟩:=zmY HY1.out
 have q3:wc.cell? ⟨F.g,76,none⟩=some (.slice ua tk.l.length uc):=(HY1.out.at 76 tk.v rfl).trans (by rw [hv])
 have q4:wc.cell? ⟨F.g,72,none⟩=some (.int .i64 M.clock):=HY1.out.at 72 _ rfl
 have HV:=hid hv
 have HLN:=hid hl
 have HA:=hid ((HY1.out.over (.cells #[.int .i64 M.clock,.int .i64 k,.int .u8 n] 66)).drew)
 have HU:Hid (((wc.alloc (.cells #[.int .i64 M.clock,.int .i64 k,.int .u8 n] 66)).drew).ownsRow F.B 66 3 (.slice ua tk.l.length uc) tk.l.length (wcs tk.l)):=hv ▸ HA.out.ws
 have HN:Hid (∀ j u,([.int .i64 M.clock,.int .i64 k,.int .u8 n]:List Value)[j]? = some u->((wc.alloc (.cells #[.int .i64 M.clock,.int .i64 k,.int .u8 n] 66)).drew).cell? ((⟨wc.heap.size,0,none⟩:Addr).add j)=some u):=World.news_of_block (cs:=#[.int .i64 M.clock,.int .i64 k,.int .u8 n]) (t:=66) (fr:=(0,0)) (heap_alloc_new wc _)
 have HO:Hid (∀ u∈([.int .i64 M.clock,.int .i64 k,.int .u8 n]:List Value),u.oneCell'=true):=by intro u hu;simp at hu;rcases hu with rfl|rfl|rfl <;> rfl
 have HZ:Hid (F.B<=((wc.alloc (.cells #[.int .i64 M.clock,.int .i64 k,.int .u8 n] 66)).drew).heap.size):=HA.out.big
 have H63:Hid (tk.l.length+1<=maxLen):=by show _<=_;unfold maxLen;omega
 have HBY:Hid ((tk.l.length+1)*24<=140737488355328):=by show _<=_;omega
 have HGF:Hid (∀ w3,((wc.alloc (.cells #[.int .i64 M.clock,.int .i64 k,.int .u8 n] 66)).drew).grownBy w3 (Value.slice ua tk.l.length uc).ownBlock->w3.frozen? ⟨F.g,76,none⟩=false/\F.g<w3.heap.size/\w3.cell? ⟨F.g,76,none⟩=some (.slice ua tk.l.length uc)):=λw3 hg3=>by
  have hx:=HA.out.bx.same hg3.size (hg3.block F.g HA.out.bx.z (λe=>(HA.out.wd F.g (by rw [hv];exact e.symm)).1 (Or.inl rfl)))
  exact ⟨hx.f 76,hx.z,(hx.at 76 tk.v rfl).trans (by rw [hv])⟩
 have HK:Hid (∀ (gg cp:Nat) (w3:World),w3.ownsRow F.B 66 3 (.slice (some ⟨gg,0,none⟩) (tk.l.length+1) cp) (tk.l.length+1) (wcs tk.l++[.int .i64 M.clock,.int .i64 k,.int .u8 n])->((wc.alloc (.cells #[.int .i64 M.clock,.int .i64 k,.int .u8 n] 66)).drew).grownBy w3 (Value.slice ua tk.l.length uc).ownBlock->((Value.slice ua tk.l.length uc).ownBlock=some gg \/ gg=wc.heap.size+1) ->
  EndA F W (w3.setCell ⟨F.g,76,none⟩ (.slice (some ⟨gg,0,none⟩) (tk.l.length+1) cp)) { M with s:=M.s.put k n } tk [⟨M.clock,k,n⟩]):=λgg cp w3 hown hg3 hat=>by
  rw [<- hv] at hg3 hat
  obtain ⟨x1,x2⟩:=HA.out.wrote (x:=⟨M.clock,k,n⟩) hg3 hown (hat.imp id (λe=>by rw [e];show _=(wc.alloc _).heap.size;simp))
  exact ⟨⟨_,x1⟩,(HY2.out.w.trans (Bw.of_below HY1.out.big ((stA (st0 wc) _).drew))).trans x2⟩
 obtain ⟨i1,hj0,hy0,hy1,hy2⟩:=info_parts zbV
 have HSZ:Hid (((wc.alloc (.cells #[.int .i64 M.clock,.int .i64 k,.int .u8 n] 66)).drew).heap.size=wc.heap.size+1):=by show _=_;simp
 have HS2:Hid (((wc.alloc (.cells #[.int .i64 M.clock,.int .i64 k,.int .u8 n] 66)).drew).cell? ⟨F.E.sb k,0,none⟩=some (pt F.g 0)/\((wc.alloc (.cells #[.int .i64 M.clock,.int .i64 k,.int .u8 n] 66)).drew).cell? ⟨F.E.sa k,0,none⟩=some (.int .i64 k)/\((wc.alloc (.cells #[.int .i64 M.clock,.int .i64 k,.int .u8 n] 66)).drew).cell? ⟨F.g,72,none⟩=some (.int .i64 M.clock)):=⟨(HA.out.env _ _ (.sb k hk)).2,(HA.out.env _ _ (.sa k hk)).2,HA.out.at 72 _ rfl⟩
 have HQ5:Hid (((wc.alloc (.cells #[.int .i64 M.clock,.int .i64 k,.int .u8 n] 66)).drew).cell? ⟨F.g,76,none⟩=some (.slice ua tk.l.length uc)/\F.g<((wc.alloc (.cells #[.int .i64 M.clock,.int .i64 k,.int .u8 n] 66)).drew).heap.size):=⟨(HA.out.at 76 tk.v rfl).trans (by rw [hv]),HA.out.bx.z⟩
 have HS3:Hid (∀ w3:World,((wc.alloc (.cells #[.int .i64 M.clock,.int .i64 k,.int .u8 n] 66)).drew).grownBy w3 (Value.slice ua tk.l.length uc).ownBlock->w3.cell? ⟨F.E.sb k,0,none⟩=some (pt F.g 0)/\w3.cell? ⟨F.E.sa k,0,none⟩=some (.int .i64 k)/\w3.cell? ⟨F.g,72,none⟩=some (.int .i64 M.clock)):=λw3 hg3=>by
  have hfar:∀ x,x<((wc.alloc (.cells #[.int .i64 M.clock,.int .i64 k,.int .u8 n] 66)).drew).heap.size->(∀ e:tk.v.ownBlock=some x,False)->w3.heap[x]? = ((wc.alloc (.cells #[.int .i64 M.clock,.int .i64 k,.int .u8 n] 66)).drew).heap[x]?:=λx hx hne=>hg3.block x hx (λe=>hne (by rw [hv];exact e.symm))
  obtain ⟨a1,a2⟩:=HA.out.env _ _ (.sb k hk)
  obtain ⟨b1,b2⟩:=HA.out.env _ _ (.sa k hk)
  exact ⟨(World.cell?_of_block (hfar _ a1 (λe=>(HA.out.wd _ e).2.2.2 _ _ (.sb k hk) rfl))).trans a2,(World.cell?_of_block (hfar _ b1 (λe=>(HA.out.wd _ e).2.2.2 _ _ (.sa k hk) rfl))).trans b2,(World.cell?_of_block (hfar _ HA.out.bx.z (λe=>(HA.out.wd _ e).1 (Or.inl rfl)))).trans (HA.out.at 72 _ rfl)⟩
 have HS4:Hid (∀ (w3:World) (v:Value),(w3.cell? ⟨F.E.sb k,0,none⟩=some (pt F.g 0)/\w3.cell? ⟨F.E.sa k,0,none⟩=some (.int .i64 k)/\w3.cell? ⟨F.g,72,none⟩=some (.int .i64 M.clock))->(w3.setCell ⟨F.g,76,none⟩ v).cell? ⟨F.E.sb k,0,none⟩=some (pt F.g 0)/\(w3.setCell ⟨F.g,76,none⟩ v).cell? ⟨F.E.sa k,0,none⟩=some (.int .i64 k)/\(w3.setCell ⟨F.g,76,none⟩ v).cell? ⟨F.g,72,none⟩=some (.int .i64 M.clock)):=λw3 v h=>⟨(World.cell?_of_block (zae hn1)).trans h.1,(World.cell?_of_block (zae hn2)).trans h.2.1,(World.cell?_setCell_other _ _ _ _ (by simp)).trans h.2.2⟩
 clear hY1 hY2 hv hl
 go_wp2
 refine wp_region_held_drew (S:=λw'=>w'.cell? ⟨F.E.sb k,0,none⟩=some (pt F.g 0)/\w'.cell? ⟨F.E.sa k,0,none⟩=some (.int .i64 k)/\w'.cell? ⟨F.g,72,none⟩=some (.int .i64 M.clock)) (by kernel_rfl) ⟨q1,q2,q4⟩ ?_
 intro hS
 refine tqK 0 ⟨some 19,_,_,_,_,none⟩ hS ?_
 simp only [Act.put,xA,xB,xC]
 refine tqK 1 ⟨some 20,_,_,_,_,none⟩ hS ?_
 simp only [Act.put,xA,xB,xC]
 refine tqK 2 ⟨some 21,_,_,_,_,none⟩ hS ?_
 simp only [Act.put,xA,xB,xC]
 refine tqK 3 ⟨some 22,_,_,_,_,none⟩ hS ?_
 simp only [Act.put,xA,xB,xC]
 refine tqK 5 ⟨some 24,_,_,_,_,none⟩ hS ?_
 simp only [Act.put,xA,xB,xC]
 refine tqK 6 ⟨some 25,_,_,_,_,none⟩ hS ?_
 simp only [Act.put,xA,xB,xC]
 refine tqK 7 ⟨some 26,_,_,_,_,none⟩ hS ?_
 simp only [Act.put,xA,xB,xC]
 refine tqK 8 ⟨some 27,_,_,_,_,none⟩ hS ?_
 simp only [Act.put,xA,xB,xC]
 refine tqK 9 ⟨some 28,_,_,_,_,none⟩ hS ?_
 simp only [Act.put,xA,xB,xC]
 refine tqK 10 ⟨some 29,_,_,_,_,none⟩ hS ?_
 simp only [Act.put,xA,xB,xC]
 refine tqK 11 ⟨some 30,_,_,_,_,none⟩ hS ?_
 simp only [Act.put,xA,xB,xC]
 refine tqK 12 ⟨some 31,_,_,_,_,none⟩ hS ?_
 simp only [Act.put,xA,xB,xC]
 refine wpAnyH_ready (rs:=[4,13]) (by kernel_rfl) (by simp) ?_
 refine AllReadyH.cons (o:=⟨some 23,_,_,_,_,none⟩) rfl (λK hK=>?_) (AllReadyH.cons (o:=⟨some 32,_,_,_,_,none⟩) rfl (λK hK=>?_) AllReadyH.nil)
 ·go_simp
  refine hK.out _ _ hS (λ_=>?_)
  clear hK K
  try simp only [Act.put,xA,xB,xC]
  refine wpAnyH_ready (rs:=[13]) (by kernel_rfl) (by simp) ?_
  refine AllReadyH.cons (o:=⟨some 32,_,_,_,_,none⟩) rfl (λK hK=>?_) AllReadyH.nil
  go_simp
  refine hK.out _ _ HS2.out (λ_=>?_)
  clear hK K
  try simp only [Act.put,xA,xB,xC]
  refine wpAnyH_ready (rs:=[14]) (by kernel_rfl) (by simp) ?_
  refine AllReadyH.cons (o:=⟨some 33,_,_,_,_,none⟩) rfl (λK hK=>?_) AllReadyH.nil
  refine step_append_lies _ (by rfl) (.tmp 23) (.tmp 32) 48 (by rfl) F.B 66 i1 _ 3 24 Tryz.underlying48 hj0 hy0 hy1 hy2 rfl (by omega) (.slice ua tk.l.length uc) tk.l.length (wcs tk.l) rfl HU.out ⟨wc.heap.size,0,none⟩ 1 1 [.int .i64 M.clock,.int .i64 k,.int .u8 n] rfl rfl HN.out HO.out (by omega) H63.out HBY.out HZ.out (wc.heap.size+1) HSZ.out ?_
  intro gg cp w3 hown3 hgrow hat hlt3
  have hS3:=HS3.out w3 hgrow
  refine hK.out _ _ hS3 (λ_=>?_)
  clear hK K
  simp only [Act.put,xA,xB,xC]
  refine tqK 15 ⟨some 34,_,_,_,_,none⟩ hS3 ?_
  simp only [Act.put,xA,xB,xC]
  refine tqK 16 ⟨some 35,_,_,_,_,none⟩ hS3 ?_
  simp only [Act.put,xA,xB,xC]
  refine wpAnyH_ready (rs:=[17]) (by kernel_rfl) (by simp) ?_
  refine AllReadyH.cons (o:=⟨none,_,_,_,_,none⟩) rfl (λK hK=>?_) AllReadyH.nil
  obtain ⟨f3,z3,d3⟩:=HGF.out w3 hgrow
  go_simp
  refine hK.out _ _ (HS4.out w3 _ hS3) (λ_=>?_)
  clear hK K
  refine wpAnyH_done (by kernel_rfl) ?_ _
  go_simp
  go_wp2
  go_end0
  exact ⟨rfl,HK.out gg cp w3 hown3 hgrow hat⟩
 ·go_simp
  refine hK.out _ _ HS2.out (λ_=>?_)
  clear hK K
  try simp only [Act.put,xA,xB,xC]
  refine wpAnyH_ready (rs:=[4]) (by kernel_rfl) (by simp) ?_
  refine AllReadyH.cons (o:=⟨some 23,_,_,_,_,none⟩) rfl (λK hK=>?_) AllReadyH.nil
  have q5:=HQ5.out
  go_simp
  refine hK.out _ _ HS2.out (λ_=>?_)
  clear hK K q5
  try simp only [Act.put,xA,xB,xC]
  refine wpAnyH_ready (rs:=[14]) (by kernel_rfl) (by simp) ?_
  refine AllReadyH.cons (o:=⟨some 33,_,_,_,_,none⟩) rfl (λK hK=>?_) AllReadyH.nil
  refine step_append_lies _ (by rfl) (.tmp 23) (.tmp 32) 48 (by rfl) F.B 66 i1 _ 3 24 Tryz.underlying48 hj0 hy0 hy1 hy2 rfl (by omega) (.slice ua tk.l.length uc) tk.l.length (wcs tk.l) rfl HU.out ⟨wc.heap.size,0,none⟩ 1 1 [.int .i64 M.clock,.int .i64 k,.int .u8 n] rfl rfl HN.out HO.out (by omega) H63.out HBY.out HZ.out (wc.heap.size+1) HSZ.out ?_
  intro gg cp w3 hown3 hgrow hat hlt3
  have hS3:=HS3.out w3 hgrow
  refine hK.out _ _ hS3 (λ_=>?_)
  clear hK K
  simp only [Act.put,xA,xB,xC]
  refine tqK 15 ⟨some 34,_,_,_,_,none⟩ hS3 ?_
  simp only [Act.put,xA,xB,xC]
  refine tqK 16 ⟨some 35,_,_,_,_,none⟩ hS3 ?_
  simp only [Act.put,xA,xB,xC]
  refine wpAnyH_ready (rs:=[17]) (by kernel_rfl) (by simp) ?_
  refine AllReadyH.cons (o:=⟨none,_,_,_,_,none⟩) rfl (λK hK=>?_) AllReadyH.nil
  obtain ⟨f3,z3,d3⟩:=HGF.out w3 hgrow
  go_simp
  refine hK.out _ _ (HS4.out w3 _ hS3) (λ_=>?_)
  clear hK K
  refine wpAnyH_done (by kernel_rfl) ?_ _
  go_simp
  go_wp2
  go_end0
  exact ⟨rfl,HK.out gg cp w3 hown3 hgrow hat⟩
end
end Go.Proofs.YtbennamieealbaaGreatDoor
