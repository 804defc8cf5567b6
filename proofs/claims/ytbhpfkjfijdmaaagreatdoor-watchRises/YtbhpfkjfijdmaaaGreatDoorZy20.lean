/-
  Parts of a proof, joined.
-/
import Derived.Test.YtbhpfkjfijdmaaaGreatDoorZy17
import Derived.Test.YtbhpfkjfijdmaaaGreatDoorZy18
import Derived.Test.YtbhpfkjfijdmaaaGreatDoorZy19
namespace Go.Proofs.YtbhpfkjfijdmaaaGreatDoor
open Go.ChangeShapes Go.WideShapes Go.ChangeAt Go.RowKit
set_option linter.unusedVariables false
set_option maxRecDepth 100000
set_option maxHeartbeats 3200000
theorem put_16 (s:Sd) (b:Int) (w:World) (h:s.ok) (hb:0<=b/\b<=255) :
 Calls Tryz.prog 168 #[(snV s),.int .i64 16,.int .u8 b] w fun e w'=>e = .returned (.tuple #[(snV (⟨s.a,s.b,s.c.put 0 b,s.w⟩:Sd)),.int .i64 0])/\Below w.heap.size w w':=by
 unfold snV
 have i3:=port_at0
 go_enter Tryz.func168,Tryz.ntmps168
 go_upto_region 4 with fail
 go_cut [] (fun wx=>SmW w ⟨s.a,s.b,s.c.put 0 b,s.w⟩ [] (.slice none 0 0) wx)
 case first =>
  refine Pl.cutW (SmW w s [] (.slice none 0 0)) (SmW.two w s) ?_
  intro W hW
  have HW:=hid hW
  obtain ⟨c0,c1,c2,c3,c4,tz,tf⟩:=hW.b.w2
  clear hW
  go_region_with (first
   | (go_at_call 199;refine (ports_any _).mono ?_;rintro e w1 ⟨rfl,hb1⟩;have HW1:=hid (HW.out.drew.kept hb1);obtain ⟨d0,d1,d2,d3,d4,dz,df⟩:=HW1.out.b.w2)
   | (go_at_call 255;refine (port_0 s.c b _ h.c hb).mono ?_;rintro e w2 ⟨rfl,hb2⟩;have HW2:=hid (HW1.out.kept hb2);obtain ⟨e0,e1,e2,e3,e4,ez,ef⟩:=HW2.out.b.w2))
  all_goals (go_wp2_with fail;go_meet)
  all_goals exact HW2.out.v2 _
 case rest =>
  have HT:=hid hcut
  clear hcut
  go_wp2_with (first
   | (refine wpList_load_mid rfl 36 _ rfl w.heap.size 0 rfl (scs ⟨s.a,s.b,s.c.put 0 b,s.w⟩) _ HT.out.b.c Tryz.underlying36 rfl info_sound ?_)
   | (refine wpList_store_mid rfl 36 _ _ rfl (w.heap.size+1) 0 _ rfl rfl (there16 HT.out.r) info_sound (all16 _) ?_
      refine Pl.cutL (fun W=>Below w.heap.size w W/\Bx W (w.heap.size+1) (scs ⟨s.a,s.b,s.c.put 0 b,s.w⟩)) ⟨?_,?_⟩ ?_
      ·exact Bl.puts HT.out.low (Nat.le_succ _) _
      ·exact HT.out.r.puts 0 (scs ⟨s.a,s.b,s.c.put 0 b,s.w⟩) (by simp)
      rintro W ⟨hlow,hbox⟩
      have HLO:=hid hlow
      have HBX:=hid hbox
      clear hlow hbox))
  have hl:=loadS HBX.out
  refine bodyPost_ret (v:=.tuple #[(.agg #[.int .u16 (⟨s.a,s.b,s.c.put 0 b,s.w⟩:Sd).a.p,.int .u16 (⟨s.a,s.b,s.c.put 0 b,s.w⟩:Sd).a.c,.int .u8 (⟨s.a,s.b,s.c.put 0 b,s.w⟩:Sd).a.l,.bool (⟨s.a,s.b,s.c.put 0 b,s.w⟩:Sd).a.h,.int .u16 (⟨s.a,s.b,s.c.put 0 b,s.w⟩:Sd).a.n,.int .u16 (⟨s.a,s.b,s.c.put 0 b,s.w⟩:Sd).b.p,.int .u16 (⟨s.a,s.b,s.c.put 0 b,s.w⟩:Sd).b.c,.int .u8 (⟨s.a,s.b,s.c.put 0 b,s.w⟩:Sd).b.l,.bool (⟨s.a,s.b,s.c.put 0 b,s.w⟩:Sd).b.h,.int .u16 (⟨s.a,s.b,s.c.put 0 b,s.w⟩:Sd).b.n,.int .u16 (⟨s.a,s.b,s.c.put 0 b,s.w⟩:Sd).c.p,.int .u16 (⟨s.a,s.b,s.c.put 0 b,s.w⟩:Sd).c.c,.int .u8 (⟨s.a,s.b,s.c.put 0 b,s.w⟩:Sd).c.l,.bool (⟨s.a,s.b,s.c.put 0 b,s.w⟩:Sd).c.h,.int .u16 (⟨s.a,s.b,s.c.put 0 b,s.w⟩:Sd).c.n,.int .i64 (⟨s.a,s.b,s.c.put 0 b,s.w⟩:Sd).w]),.int .i64 0]) ?_ rfl ⟨rfl,HLO.out⟩
  simp only [results,Tryz.results168]
  simp
  show (Result.andThen (Sem.run Tryz.prog (loadVar 36 ⟨w.heap.size+1,0,none⟩) W) _)=_
  rw [hl]
  rfl
theorem put_17 (s:Sd) (b:Int) (w:World) (h:s.ok) (hb:0<=b/\b<=255) :
 Calls Tryz.prog 168 #[(snV s),.int .i64 17,.int .u8 b] w fun e w'=>e = .returned (.tuple #[(snV (⟨s.a,s.b,s.c.put 1 b,s.w⟩:Sd)),.int .i64 0])/\Below w.heap.size w w':=by
 unfold snV
 have i3:=port_at1
 go_enter Tryz.func168,Tryz.ntmps168
 go_upto_region 4 with fail
 go_cut [] (fun wx=>SmW w ⟨s.a,s.b,s.c.put 1 b,s.w⟩ [] (.slice none 0 0) wx)
 case first =>
  refine Pl.cutW (SmW w s [] (.slice none 0 0)) (SmW.two w s) ?_
  intro W hW
  have HW:=hid hW
  obtain ⟨c0,c1,c2,c3,c4,tz,tf⟩:=hW.b.w2
  clear hW
  go_region_with (first
   | (go_at_call 199;refine (ports_any _).mono ?_;rintro e w1 ⟨rfl,hb1⟩;have HW1:=hid (HW.out.drew.kept hb1);obtain ⟨d0,d1,d2,d3,d4,dz,df⟩:=HW1.out.b.w2)
   | (go_at_call 257;refine (port_1 s.c b _ h.c hb).mono ?_;rintro e w2 ⟨rfl,hb2⟩;have HW2:=hid (HW1.out.kept hb2);obtain ⟨e0,e1,e2,e3,e4,ez,ef⟩:=HW2.out.b.w2))
  all_goals (go_wp2_with fail;go_meet)
  all_goals exact HW2.out.v2 _
 case rest =>
  have HT:=hid hcut
  clear hcut
  go_wp2_with (first
   | (refine wpList_load_mid rfl 36 _ rfl w.heap.size 0 rfl (scs ⟨s.a,s.b,s.c.put 1 b,s.w⟩) _ HT.out.b.c Tryz.underlying36 rfl info_sound ?_)
   | (refine wpList_store_mid rfl 36 _ _ rfl (w.heap.size+1) 0 _ rfl rfl (there16 HT.out.r) info_sound (all16 _) ?_
      refine Pl.cutL (fun W=>Below w.heap.size w W/\Bx W (w.heap.size+1) (scs ⟨s.a,s.b,s.c.put 1 b,s.w⟩)) ⟨?_,?_⟩ ?_
      ·exact Bl.puts HT.out.low (Nat.le_succ _) _
      ·exact HT.out.r.puts 0 (scs ⟨s.a,s.b,s.c.put 1 b,s.w⟩) (by simp)
      rintro W ⟨hlow,hbox⟩
      have HLO:=hid hlow
      have HBX:=hid hbox
      clear hlow hbox))
  have hl:=loadS HBX.out
  refine bodyPost_ret (v:=.tuple #[(.agg #[.int .u16 (⟨s.a,s.b,s.c.put 1 b,s.w⟩:Sd).a.p,.int .u16 (⟨s.a,s.b,s.c.put 1 b,s.w⟩:Sd).a.c,.int .u8 (⟨s.a,s.b,s.c.put 1 b,s.w⟩:Sd).a.l,.bool (⟨s.a,s.b,s.c.put 1 b,s.w⟩:Sd).a.h,.int .u16 (⟨s.a,s.b,s.c.put 1 b,s.w⟩:Sd).a.n,.int .u16 (⟨s.a,s.b,s.c.put 1 b,s.w⟩:Sd).b.p,.int .u16 (⟨s.a,s.b,s.c.put 1 b,s.w⟩:Sd).b.c,.int .u8 (⟨s.a,s.b,s.c.put 1 b,s.w⟩:Sd).b.l,.bool (⟨s.a,s.b,s.c.put 1 b,s.w⟩:Sd).b.h,.int .u16 (⟨s.a,s.b,s.c.put 1 b,s.w⟩:Sd).b.n,.int .u16 (⟨s.a,s.b,s.c.put 1 b,s.w⟩:Sd).c.p,.int .u16 (⟨s.a,s.b,s.c.put 1 b,s.w⟩:Sd).c.c,.int .u8 (⟨s.a,s.b,s.c.put 1 b,s.w⟩:Sd).c.l,.bool (⟨s.a,s.b,s.c.put 1 b,s.w⟩:Sd).c.h,.int .u16 (⟨s.a,s.b,s.c.put 1 b,s.w⟩:Sd).c.n,.int .i64 (⟨s.a,s.b,s.c.put 1 b,s.w⟩:Sd).w]),.int .i64 0]) ?_ rfl ⟨rfl,HLO.out⟩
  simp only [results,Tryz.results168]
  simp
  show (Result.andThen (Sem.run Tryz.prog (loadVar 36 ⟨w.heap.size+1,0,none⟩) W) _)=_
  rw [hl]
  rfl
theorem put_18 (s:Sd) (b:Int) (w:World) (h:s.ok) (hb:0<=b/\b<=255) :
 Calls Tryz.prog 168 #[(snV s),.int .i64 18,.int .u8 b] w fun e w'=>e = .returned (.tuple #[(snV (⟨s.a,s.b,s.c.put 2 b,s.w⟩:Sd)),.int .i64 0])/\Below w.heap.size w w':=by
 unfold snV
 have i3:=port_at2
 go_enter Tryz.func168,Tryz.ntmps168
 go_upto_region 4 with fail
 go_cut [] (fun wx=>SmW w ⟨s.a,s.b,s.c.put 2 b,s.w⟩ [] (.slice none 0 0) wx)
 case first =>
  refine Pl.cutW (SmW w s [] (.slice none 0 0)) (SmW.two w s) ?_
  intro W hW
  have HW:=hid hW
  obtain ⟨c0,c1,c2,c3,c4,tz,tf⟩:=hW.b.w2
  clear hW
  go_region_with (first
   | (go_at_call 199;refine (ports_any _).mono ?_;rintro e w1 ⟨rfl,hb1⟩;have HW1:=hid (HW.out.drew.kept hb1);obtain ⟨d0,d1,d2,d3,d4,dz,df⟩:=HW1.out.b.w2)
   | (go_at_call 259;refine (port_2 s.c b _ h.c hb).mono ?_;rintro e w2 ⟨rfl,hb2⟩;have HW2:=hid (HW1.out.kept hb2);obtain ⟨e0,e1,e2,e3,e4,ez,ef⟩:=HW2.out.b.w2))
  all_goals (go_wp2_with fail;go_meet)
  all_goals exact HW2.out.v2 _
 case rest =>
  have HT:=hid hcut
  clear hcut
  go_wp2_with (first
   | (refine wpList_load_mid rfl 36 _ rfl w.heap.size 0 rfl (scs ⟨s.a,s.b,s.c.put 2 b,s.w⟩) _ HT.out.b.c Tryz.underlying36 rfl info_sound ?_)
   | (refine wpList_store_mid rfl 36 _ _ rfl (w.heap.size+1) 0 _ rfl rfl (there16 HT.out.r) info_sound (all16 _) ?_
      refine Pl.cutL (fun W=>Below w.heap.size w W/\Bx W (w.heap.size+1) (scs ⟨s.a,s.b,s.c.put 2 b,s.w⟩)) ⟨?_,?_⟩ ?_
      ·exact Bl.puts HT.out.low (Nat.le_succ _) _
      ·exact HT.out.r.puts 0 (scs ⟨s.a,s.b,s.c.put 2 b,s.w⟩) (by simp)
      rintro W ⟨hlow,hbox⟩
      have HLO:=hid hlow
      have HBX:=hid hbox
      clear hlow hbox))
  have hl:=loadS HBX.out
  refine bodyPost_ret (v:=.tuple #[(.agg #[.int .u16 (⟨s.a,s.b,s.c.put 2 b,s.w⟩:Sd).a.p,.int .u16 (⟨s.a,s.b,s.c.put 2 b,s.w⟩:Sd).a.c,.int .u8 (⟨s.a,s.b,s.c.put 2 b,s.w⟩:Sd).a.l,.bool (⟨s.a,s.b,s.c.put 2 b,s.w⟩:Sd).a.h,.int .u16 (⟨s.a,s.b,s.c.put 2 b,s.w⟩:Sd).a.n,.int .u16 (⟨s.a,s.b,s.c.put 2 b,s.w⟩:Sd).b.p,.int .u16 (⟨s.a,s.b,s.c.put 2 b,s.w⟩:Sd).b.c,.int .u8 (⟨s.a,s.b,s.c.put 2 b,s.w⟩:Sd).b.l,.bool (⟨s.a,s.b,s.c.put 2 b,s.w⟩:Sd).b.h,.int .u16 (⟨s.a,s.b,s.c.put 2 b,s.w⟩:Sd).b.n,.int .u16 (⟨s.a,s.b,s.c.put 2 b,s.w⟩:Sd).c.p,.int .u16 (⟨s.a,s.b,s.c.put 2 b,s.w⟩:Sd).c.c,.int .u8 (⟨s.a,s.b,s.c.put 2 b,s.w⟩:Sd).c.l,.bool (⟨s.a,s.b,s.c.put 2 b,s.w⟩:Sd).c.h,.int .u16 (⟨s.a,s.b,s.c.put 2 b,s.w⟩:Sd).c.n,.int .i64 (⟨s.a,s.b,s.c.put 2 b,s.w⟩:Sd).w]),.int .i64 0]) ?_ rfl ⟨rfl,HLO.out⟩
  simp only [results,Tryz.results168]
  simp
  show (Result.andThen (Sem.run Tryz.prog (loadVar 36 ⟨w.heap.size+1,0,none⟩) W) _)=_
  rw [hl]
  rfl
theorem put_19 (s:Sd) (b:Int) (w:World) (h:s.ok) (hb:0<=b/\b<=255) :
 Calls Tryz.prog 168 #[(snV s),.int .i64 19,.int .u8 b] w fun e w'=>e = .returned (.tuple #[(snV (⟨s.a,s.b,s.c.put 3 b,s.w⟩:Sd)),.int .i64 0])/\Below w.heap.size w w':=by
 unfold snV
 have i3:=port_at3
 go_enter Tryz.func168,Tryz.ntmps168
 go_upto_region 4 with fail
 go_cut [] (fun wx=>SmW w ⟨s.a,s.b,s.c.put 3 b,s.w⟩ [] (.slice none 0 0) wx)
 case first =>
  refine Pl.cutW (SmW w s [] (.slice none 0 0)) (SmW.two w s) ?_
  intro W hW
  have HW:=hid hW
  obtain ⟨c0,c1,c2,c3,c4,tz,tf⟩:=hW.b.w2
  clear hW
  go_region_with (first
   | (go_at_call 199;refine (ports_any _).mono ?_;rintro e w1 ⟨rfl,hb1⟩;have HW1:=hid (HW.out.drew.kept hb1);obtain ⟨d0,d1,d2,d3,d4,dz,df⟩:=HW1.out.b.w2)
   | (go_at_call 260;refine (port_3 s.c b _ h.c hb).mono ?_;rintro e w2 ⟨rfl,hb2⟩;have HW2:=hid (HW1.out.kept hb2);obtain ⟨e0,e1,e2,e3,e4,ez,ef⟩:=HW2.out.b.w2))
  all_goals (go_wp2_with fail;go_meet)
  all_goals exact HW2.out.v2 _
 case rest =>
  have HT:=hid hcut
  clear hcut
  go_wp2_with (first
   | (refine wpList_load_mid rfl 36 _ rfl w.heap.size 0 rfl (scs ⟨s.a,s.b,s.c.put 3 b,s.w⟩) _ HT.out.b.c Tryz.underlying36 rfl info_sound ?_)
   | (refine wpList_store_mid rfl 36 _ _ rfl (w.heap.size+1) 0 _ rfl rfl (there16 HT.out.r) info_sound (all16 _) ?_
      refine Pl.cutL (fun W=>Below w.heap.size w W/\Bx W (w.heap.size+1) (scs ⟨s.a,s.b,s.c.put 3 b,s.w⟩)) ⟨?_,?_⟩ ?_
      ·exact Bl.puts HT.out.low (Nat.le_succ _) _
      ·exact HT.out.r.puts 0 (scs ⟨s.a,s.b,s.c.put 3 b,s.w⟩) (by simp)
      rintro W ⟨hlow,hbox⟩
      have HLO:=hid hlow
      have HBX:=hid hbox
      clear hlow hbox))
  have hl:=loadS HBX.out
  refine bodyPost_ret (v:=.tuple #[(.agg #[.int .u16 (⟨s.a,s.b,s.c.put 3 b,s.w⟩:Sd).a.p,.int .u16 (⟨s.a,s.b,s.c.put 3 b,s.w⟩:Sd).a.c,.int .u8 (⟨s.a,s.b,s.c.put 3 b,s.w⟩:Sd).a.l,.bool (⟨s.a,s.b,s.c.put 3 b,s.w⟩:Sd).a.h,.int .u16 (⟨s.a,s.b,s.c.put 3 b,s.w⟩:Sd).a.n,.int .u16 (⟨s.a,s.b,s.c.put 3 b,s.w⟩:Sd).b.p,.int .u16 (⟨s.a,s.b,s.c.put 3 b,s.w⟩:Sd).b.c,.int .u8 (⟨s.a,s.b,s.c.put 3 b,s.w⟩:Sd).b.l,.bool (⟨s.a,s.b,s.c.put 3 b,s.w⟩:Sd).b.h,.int .u16 (⟨s.a,s.b,s.c.put 3 b,s.w⟩:Sd).b.n,.int .u16 (⟨s.a,s.b,s.c.put 3 b,s.w⟩:Sd).c.p,.int .u16 (⟨s.a,s.b,s.c.put 3 b,s.w⟩:Sd).c.c,.int .u8 (⟨s.a,s.b,s.c.put 3 b,s.w⟩:Sd).c.l,.bool (⟨s.a,s.b,s.c.put 3 b,s.w⟩:Sd).c.h,.int .u16 (⟨s.a,s.b,s.c.put 3 b,s.w⟩:Sd).c.n,.int .i64 (⟨s.a,s.b,s.c.put 3 b,s.w⟩:Sd).w]),.int .i64 0]) ?_ rfl ⟨rfl,HLO.out⟩
  simp only [results,Tryz.results168]
  simp
  show (Result.andThen (Sem.run Tryz.prog (loadVar 36 ⟨w.heap.size+1,0,none⟩) W) _)=_
  rw [hl]
  rfl
theorem put_20 (s:Sd) (b:Int) (w:World) (h:s.ok) (hb:0<=b/\b<=255) :
 Calls Tryz.prog 168 #[(snV s),.int .i64 20,.int .u8 b] w fun e w'=>e = .returned (.tuple #[(snV (⟨s.a,s.b,s.c.put 4 b,s.w⟩:Sd)),.int .i64 0])/\Below w.heap.size w w':=by
 unfold snV
 have i3:=port_at4
 go_enter Tryz.func168,Tryz.ntmps168
 go_upto_region 4 with fail
 go_cut [] (fun wx=>SmW w ⟨s.a,s.b,s.c.put 4 b,s.w⟩ [] (.slice none 0 0) wx)
 case first =>
  refine Pl.cutW (SmW w s [] (.slice none 0 0)) (SmW.two w s) ?_
  intro W hW
  have HW:=hid hW
  obtain ⟨c0,c1,c2,c3,c4,tz,tf⟩:=hW.b.w2
  clear hW
  go_region_with (first
   | (go_at_call 199;refine (ports_any _).mono ?_;rintro e w1 ⟨rfl,hb1⟩;have HW1:=hid (HW.out.drew.kept hb1);obtain ⟨d0,d1,d2,d3,d4,dz,df⟩:=HW1.out.b.w2)
   | (go_at_call 261;refine (port_4 s.c b _ h.c hb).mono ?_;rintro e w2 ⟨rfl,hb2⟩;have HW2:=hid (HW1.out.kept hb2);obtain ⟨e0,e1,e2,e3,e4,ez,ef⟩:=HW2.out.b.w2))
  all_goals (go_wp2_with fail;go_meet)
  all_goals exact HW2.out.v2 _
 case rest =>
  have HT:=hid hcut
  clear hcut
  go_wp2_with (first
   | (refine wpList_load_mid rfl 36 _ rfl w.heap.size 0 rfl (scs ⟨s.a,s.b,s.c.put 4 b,s.w⟩) _ HT.out.b.c Tryz.underlying36 rfl info_sound ?_)
   | (refine wpList_store_mid rfl 36 _ _ rfl (w.heap.size+1) 0 _ rfl rfl (there16 HT.out.r) info_sound (all16 _) ?_
      refine Pl.cutL (fun W=>Below w.heap.size w W/\Bx W (w.heap.size+1) (scs ⟨s.a,s.b,s.c.put 4 b,s.w⟩)) ⟨?_,?_⟩ ?_
      ·exact Bl.puts HT.out.low (Nat.le_succ _) _
      ·exact HT.out.r.puts 0 (scs ⟨s.a,s.b,s.c.put 4 b,s.w⟩) (by simp)
      rintro W ⟨hlow,hbox⟩
      have HLO:=hid hlow
      have HBX:=hid hbox
      clear hlow hbox))
  have hl:=loadS HBX.out
  refine bodyPost_ret (v:=.tuple #[(.agg #[.int .u16 (⟨s.a,s.b,s.c.put 4 b,s.w⟩:Sd).a.p,.int .u16 (⟨s.a,s.b,s.c.put 4 b,s.w⟩:Sd).a.c,.int .u8 (⟨s.a,s.b,s.c.put 4 b,s.w⟩:Sd).a.l,.bool (⟨s.a,s.b,s.c.put 4 b,s.w⟩:Sd).a.h,.int .u16 (⟨s.a,s.b,s.c.put 4 b,s.w⟩:Sd).a.n,.int .u16 (⟨s.a,s.b,s.c.put 4 b,s.w⟩:Sd).b.p,.int .u16 (⟨s.a,s.b,s.c.put 4 b,s.w⟩:Sd).b.c,.int .u8 (⟨s.a,s.b,s.c.put 4 b,s.w⟩:Sd).b.l,.bool (⟨s.a,s.b,s.c.put 4 b,s.w⟩:Sd).b.h,.int .u16 (⟨s.a,s.b,s.c.put 4 b,s.w⟩:Sd).b.n,.int .u16 (⟨s.a,s.b,s.c.put 4 b,s.w⟩:Sd).c.p,.int .u16 (⟨s.a,s.b,s.c.put 4 b,s.w⟩:Sd).c.c,.int .u8 (⟨s.a,s.b,s.c.put 4 b,s.w⟩:Sd).c.l,.bool (⟨s.a,s.b,s.c.put 4 b,s.w⟩:Sd).c.h,.int .u16 (⟨s.a,s.b,s.c.put 4 b,s.w⟩:Sd).c.n,.int .i64 (⟨s.a,s.b,s.c.put 4 b,s.w⟩:Sd).w]),.int .i64 0]) ?_ rfl ⟨rfl,HLO.out⟩
  simp only [results,Tryz.results168]
  simp
  show (Result.andThen (Sem.run Tryz.prog (loadVar 36 ⟨w.heap.size+1,0,none⟩) W) _)=_
  rw [hl]
  rfl
theorem put_21 (s:Sd) (b:Int) (w:World) (h:s.ok) (hb:0<=b/\b<=255) :
 Calls Tryz.prog 168 #[(snV s),.int .i64 21,.int .u8 b] w fun e w'=>e = .returned (.tuple #[(snV (⟨s.a,s.b,s.c.put 5 b,s.w⟩:Sd)),.int .i64 0])/\Below w.heap.size w w':=by
 unfold snV
 have i3:=port_at5
 go_enter Tryz.func168,Tryz.ntmps168
 go_upto_region 4 with fail
 go_cut [] (fun wx=>SmW w ⟨s.a,s.b,s.c.put 5 b,s.w⟩ [] (.slice none 0 0) wx)
 case first =>
  refine Pl.cutW (SmW w s [] (.slice none 0 0)) (SmW.two w s) ?_
  intro W hW
  have HW:=hid hW
  obtain ⟨c0,c1,c2,c3,c4,tz,tf⟩:=hW.b.w2
  clear hW
  go_region_with (first
   | (go_at_call 199;refine (ports_any _).mono ?_;rintro e w1 ⟨rfl,hb1⟩;have HW1:=hid (HW.out.drew.kept hb1);obtain ⟨d0,d1,d2,d3,d4,dz,df⟩:=HW1.out.b.w2)
   | (go_at_call 254;refine (port_id5 s.c b _).mono ?_;rintro e w2 ⟨rfl,hb2⟩;have HW2:=hid (HW1.out.kept hb2);obtain ⟨e0,e1,e2,e3,e4,ez,ef⟩:=HW2.out.b.w2))
  all_goals (go_wp2_with fail;go_meet)
  all_goals exact HW2.out.v2 _
 case rest =>
  have HT:=hid hcut
  clear hcut
  go_wp2_with (first
   | (refine wpList_load_mid rfl 36 _ rfl w.heap.size 0 rfl (scs ⟨s.a,s.b,s.c.put 5 b,s.w⟩) _ HT.out.b.c Tryz.underlying36 rfl info_sound ?_)
   | (refine wpList_store_mid rfl 36 _ _ rfl (w.heap.size+1) 0 _ rfl rfl (there16 HT.out.r) info_sound (all16 _) ?_
      refine Pl.cutL (fun W=>Below w.heap.size w W/\Bx W (w.heap.size+1) (scs ⟨s.a,s.b,s.c.put 5 b,s.w⟩)) ⟨?_,?_⟩ ?_
      ·exact Bl.puts HT.out.low (Nat.le_succ _) _
      ·exact HT.out.r.puts 0 (scs ⟨s.a,s.b,s.c.put 5 b,s.w⟩) (by simp)
      rintro W ⟨hlow,hbox⟩
      have HLO:=hid hlow
      have HBX:=hid hbox
      clear hlow hbox))
  have hl:=loadS HBX.out
  refine bodyPost_ret (v:=.tuple #[(.agg #[.int .u16 (⟨s.a,s.b,s.c.put 5 b,s.w⟩:Sd).a.p,.int .u16 (⟨s.a,s.b,s.c.put 5 b,s.w⟩:Sd).a.c,.int .u8 (⟨s.a,s.b,s.c.put 5 b,s.w⟩:Sd).a.l,.bool (⟨s.a,s.b,s.c.put 5 b,s.w⟩:Sd).a.h,.int .u16 (⟨s.a,s.b,s.c.put 5 b,s.w⟩:Sd).a.n,.int .u16 (⟨s.a,s.b,s.c.put 5 b,s.w⟩:Sd).b.p,.int .u16 (⟨s.a,s.b,s.c.put 5 b,s.w⟩:Sd).b.c,.int .u8 (⟨s.a,s.b,s.c.put 5 b,s.w⟩:Sd).b.l,.bool (⟨s.a,s.b,s.c.put 5 b,s.w⟩:Sd).b.h,.int .u16 (⟨s.a,s.b,s.c.put 5 b,s.w⟩:Sd).b.n,.int .u16 (⟨s.a,s.b,s.c.put 5 b,s.w⟩:Sd).c.p,.int .u16 (⟨s.a,s.b,s.c.put 5 b,s.w⟩:Sd).c.c,.int .u8 (⟨s.a,s.b,s.c.put 5 b,s.w⟩:Sd).c.l,.bool (⟨s.a,s.b,s.c.put 5 b,s.w⟩:Sd).c.h,.int .u16 (⟨s.a,s.b,s.c.put 5 b,s.w⟩:Sd).c.n,.int .i64 (⟨s.a,s.b,s.c.put 5 b,s.w⟩:Sd).w]),.int .i64 0]) ?_ rfl ⟨rfl,HLO.out⟩
  simp only [results,Tryz.results168]
  simp
  show (Result.andThen (Sem.run Tryz.prog (loadVar 36 ⟨w.heap.size+1,0,none⟩) W) _)=_
  rw [hl]
  rfl
theorem put_22 (s:Sd) (b:Int) (w:World) (h:s.ok) (hb:0<=b/\b<=255) :
 Calls Tryz.prog 168 #[(snV s),.int .i64 22,.int .u8 b] w fun e w'=>e = .returned (.tuple #[(snV (⟨s.a,s.b,s.c.put 6 b,s.w⟩:Sd)),.int .i64 0])/\Below w.heap.size w w':=by
 unfold snV
 have i3:=port_at6
 go_enter Tryz.func168,Tryz.ntmps168
 go_upto_region 4 with fail
 go_cut [] (fun wx=>SmW w ⟨s.a,s.b,s.c.put 6 b,s.w⟩ [] (.slice none 0 0) wx)
 case first =>
  refine Pl.cutW (SmW w s [] (.slice none 0 0)) (SmW.two w s) ?_
  intro W hW
  have HW:=hid hW
  obtain ⟨c0,c1,c2,c3,c4,tz,tf⟩:=hW.b.w2
  clear hW
  go_region_with (first
   | (go_at_call 199;refine (ports_any _).mono ?_;rintro e w1 ⟨rfl,hb1⟩;have HW1:=hid (HW.out.drew.kept hb1);obtain ⟨d0,d1,d2,d3,d4,dz,df⟩:=HW1.out.b.w2)
   | (go_at_call 254;refine (port_id6 s.c b _).mono ?_;rintro e w2 ⟨rfl,hb2⟩;have HW2:=hid (HW1.out.kept hb2);obtain ⟨e0,e1,e2,e3,e4,ez,ef⟩:=HW2.out.b.w2))
  all_goals (go_wp2_with fail;go_meet)
  all_goals exact HW2.out.v2 _
 case rest =>
  have HT:=hid hcut
  clear hcut
  go_wp2_with (first
   | (refine wpList_load_mid rfl 36 _ rfl w.heap.size 0 rfl (scs ⟨s.a,s.b,s.c.put 6 b,s.w⟩) _ HT.out.b.c Tryz.underlying36 rfl info_sound ?_)
   | (refine wpList_store_mid rfl 36 _ _ rfl (w.heap.size+1) 0 _ rfl rfl (there16 HT.out.r) info_sound (all16 _) ?_
      refine Pl.cutL (fun W=>Below w.heap.size w W/\Bx W (w.heap.size+1) (scs ⟨s.a,s.b,s.c.put 6 b,s.w⟩)) ⟨?_,?_⟩ ?_
      ·exact Bl.puts HT.out.low (Nat.le_succ _) _
      ·exact HT.out.r.puts 0 (scs ⟨s.a,s.b,s.c.put 6 b,s.w⟩) (by simp)
      rintro W ⟨hlow,hbox⟩
      have HLO:=hid hlow
      have HBX:=hid hbox
      clear hlow hbox))
  have hl:=loadS HBX.out
  refine bodyPost_ret (v:=.tuple #[(.agg #[.int .u16 (⟨s.a,s.b,s.c.put 6 b,s.w⟩:Sd).a.p,.int .u16 (⟨s.a,s.b,s.c.put 6 b,s.w⟩:Sd).a.c,.int .u8 (⟨s.a,s.b,s.c.put 6 b,s.w⟩:Sd).a.l,.bool (⟨s.a,s.b,s.c.put 6 b,s.w⟩:Sd).a.h,.int .u16 (⟨s.a,s.b,s.c.put 6 b,s.w⟩:Sd).a.n,.int .u16 (⟨s.a,s.b,s.c.put 6 b,s.w⟩:Sd).b.p,.int .u16 (⟨s.a,s.b,s.c.put 6 b,s.w⟩:Sd).b.c,.int .u8 (⟨s.a,s.b,s.c.put 6 b,s.w⟩:Sd).b.l,.bool (⟨s.a,s.b,s.c.put 6 b,s.w⟩:Sd).b.h,.int .u16 (⟨s.a,s.b,s.c.put 6 b,s.w⟩:Sd).b.n,.int .u16 (⟨s.a,s.b,s.c.put 6 b,s.w⟩:Sd).c.p,.int .u16 (⟨s.a,s.b,s.c.put 6 b,s.w⟩:Sd).c.c,.int .u8 (⟨s.a,s.b,s.c.put 6 b,s.w⟩:Sd).c.l,.bool (⟨s.a,s.b,s.c.put 6 b,s.w⟩:Sd).c.h,.int .u16 (⟨s.a,s.b,s.c.put 6 b,s.w⟩:Sd).c.n,.int .i64 (⟨s.a,s.b,s.c.put 6 b,s.w⟩:Sd).w]),.int .i64 0]) ?_ rfl ⟨rfl,HLO.out⟩
  simp only [results,Tryz.results168]
  simp
  show (Result.andThen (Sem.run Tryz.prog (loadVar 36 ⟨w.heap.size+1,0,none⟩) W) _)=_
  rw [hl]
  rfl
theorem put_23 (s:Sd) (b:Int) (w:World) (h:s.ok) (hb:0<=b/\b<=255) :
 Calls Tryz.prog 168 #[(snV s),.int .i64 23,.int .u8 b] w fun e w'=>e = .returned (.tuple #[(snV (⟨s.a,s.b,s.c.put 7 b,s.w⟩:Sd)),.int .i64 0])/\Below w.heap.size w w':=by
 unfold snV
 have i3:=port_at7
 go_enter Tryz.func168,Tryz.ntmps168
 go_upto_region 4 with fail
 go_cut [] (fun wx=>SmW w ⟨s.a,s.b,s.c.put 7 b,s.w⟩ [] (.slice none 0 0) wx)
 case first =>
  refine Pl.cutW (SmW w s [] (.slice none 0 0)) (SmW.two w s) ?_
  intro W hW
  have HW:=hid hW
  obtain ⟨c0,c1,c2,c3,c4,tz,tf⟩:=hW.b.w2
  clear hW
  go_region_with (first
   | (go_at_call 199;refine (ports_any _).mono ?_;rintro e w1 ⟨rfl,hb1⟩;have HW1:=hid (HW.out.drew.kept hb1);obtain ⟨d0,d1,d2,d3,d4,dz,df⟩:=HW1.out.b.w2)
   | (go_at_call 254;refine (port_id7 s.c b _).mono ?_;rintro e w2 ⟨rfl,hb2⟩;have HW2:=hid (HW1.out.kept hb2);obtain ⟨e0,e1,e2,e3,e4,ez,ef⟩:=HW2.out.b.w2))
  all_goals (go_wp2_with fail;go_meet)
  all_goals exact HW2.out.v2 _
 case rest =>
  have HT:=hid hcut
  clear hcut
  go_wp2_with (first
   | (refine wpList_load_mid rfl 36 _ rfl w.heap.size 0 rfl (scs ⟨s.a,s.b,s.c.put 7 b,s.w⟩) _ HT.out.b.c Tryz.underlying36 rfl info_sound ?_)
   | (refine wpList_store_mid rfl 36 _ _ rfl (w.heap.size+1) 0 _ rfl rfl (there16 HT.out.r) info_sound (all16 _) ?_
      refine Pl.cutL (fun W=>Below w.heap.size w W/\Bx W (w.heap.size+1) (scs ⟨s.a,s.b,s.c.put 7 b,s.w⟩)) ⟨?_,?_⟩ ?_
      ·exact Bl.puts HT.out.low (Nat.le_succ _) _
      ·exact HT.out.r.puts 0 (scs ⟨s.a,s.b,s.c.put 7 b,s.w⟩) (by simp)
      rintro W ⟨hlow,hbox⟩
      have HLO:=hid hlow
      have HBX:=hid hbox
      clear hlow hbox))
  have hl:=loadS HBX.out
  refine bodyPost_ret (v:=.tuple #[(.agg #[.int .u16 (⟨s.a,s.b,s.c.put 7 b,s.w⟩:Sd).a.p,.int .u16 (⟨s.a,s.b,s.c.put 7 b,s.w⟩:Sd).a.c,.int .u8 (⟨s.a,s.b,s.c.put 7 b,s.w⟩:Sd).a.l,.bool (⟨s.a,s.b,s.c.put 7 b,s.w⟩:Sd).a.h,.int .u16 (⟨s.a,s.b,s.c.put 7 b,s.w⟩:Sd).a.n,.int .u16 (⟨s.a,s.b,s.c.put 7 b,s.w⟩:Sd).b.p,.int .u16 (⟨s.a,s.b,s.c.put 7 b,s.w⟩:Sd).b.c,.int .u8 (⟨s.a,s.b,s.c.put 7 b,s.w⟩:Sd).b.l,.bool (⟨s.a,s.b,s.c.put 7 b,s.w⟩:Sd).b.h,.int .u16 (⟨s.a,s.b,s.c.put 7 b,s.w⟩:Sd).b.n,.int .u16 (⟨s.a,s.b,s.c.put 7 b,s.w⟩:Sd).c.p,.int .u16 (⟨s.a,s.b,s.c.put 7 b,s.w⟩:Sd).c.c,.int .u8 (⟨s.a,s.b,s.c.put 7 b,s.w⟩:Sd).c.l,.bool (⟨s.a,s.b,s.c.put 7 b,s.w⟩:Sd).c.h,.int .u16 (⟨s.a,s.b,s.c.put 7 b,s.w⟩:Sd).c.n,.int .i64 (⟨s.a,s.b,s.c.put 7 b,s.w⟩:Sd).w]),.int .i64 0]) ?_ rfl ⟨rfl,HLO.out⟩
  simp only [results,Tryz.results168]
  simp
  show (Result.andThen (Sem.run Tryz.prog (loadVar 36 ⟨w.heap.size+1,0,none⟩) W) _)=_
  rw [hl]
  rfl
theorem put_any (s:Sd) (k:Nat) (b:Int) (w:World) (hk:k < 24) (h:s.ok) (hb:0<=b/\b<=255) :
 Calls Tryz.prog 168 #[(.agg #[.int .u16 s.a.p,.int .u16 s.a.c,.int .u8 s.a.l,.bool s.a.h,.int .u16 s.a.n,.int .u16 s.b.p,.int .u16 s.b.c,.int .u8 s.b.l,.bool s.b.h,.int .u16 s.b.n,.int .u16 s.c.p,.int .u16 s.c.c,.int .u8 s.c.l,.bool s.c.h,.int .u16 s.c.n,.int .i64 s.w]),.int .i64 k,.int .u8 b] w fun e w'=>e = .returned (.tuple #[(.agg #[.int .u16 (s.put k b).a.p,.int .u16 (s.put k b).a.c,.int .u8 (s.put k b).a.l,.bool (s.put k b).a.h,.int .u16 (s.put k b).a.n,.int .u16 (s.put k b).b.p,.int .u16 (s.put k b).b.c,.int .u8 (s.put k b).b.l,.bool (s.put k b).b.h,.int .u16 (s.put k b).b.n,.int .u16 (s.put k b).c.p,.int .u16 (s.put k b).c.c,.int .u8 (s.put k b).c.l,.bool (s.put k b).c.h,.int .u16 (s.put k b).c.n,.int .i64 (s.put k b).w]),.int .i64 0])/\Below w.heap.size w w':=by
 have hc:k=0 \/ k=1 \/ k=2 \/ k=3 \/ k=4 \/ k=5 \/ k=6 \/ k=7 \/ k=8 \/ k=9 \/ k=10 \/ k=11 \/ k=12 \/ k=13 \/ k=14 \/ k=15 \/ k=16 \/ k=17 \/ k=18 \/ k=19 \/ k=20 \/ k=21 \/ k=22 \/ k=23:=by omega
 rcases hc with rfl | rfl | rfl | rfl | rfl | rfl | rfl | rfl | rfl | rfl | rfl | rfl | rfl | rfl | rfl | rfl | rfl | rfl | rfl | rfl | rfl | rfl | rfl | rfl
 ·exact put_0 s b w h hb
 ·exact put_1 s b w h hb
 ·exact put_2 s b w h hb
 ·exact put_3 s b w h hb
 ·exact put_4 s b w h hb
 ·exact put_5 s b w h hb
 ·exact put_6 s b w h hb
 ·exact put_7 s b w h hb
 ·exact put_8 s b w h hb
 ·exact put_9 s b w h hb
 ·exact put_10 s b w h hb
 ·exact put_11 s b w h hb
 ·exact put_12 s b w h hb
 ·exact put_13 s b w h hb
 ·exact put_14 s b w h hb
 ·exact put_15 s b w h hb
 ·exact put_16 s b w h hb
 ·exact put_17 s b w h hb
 ·exact put_18 s b w h hb
 ·exact put_19 s b w h hb
 ·exact put_20 s b w h hb
 ·exact put_21 s b w h hb
 ·exact put_22 s b w h hb
 ·exact put_23 s b w h hb
end Go.Proofs.YtbhpfkjfijdmaaaGreatDoor
