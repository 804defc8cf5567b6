/-
  Parts of a proof, joined.
-/
import Derived.Test.YtbhpfkjfijdmaaaGreatDoorZy17
namespace Go.Proofs.YtbhpfkjfijdmaaaGreatDoor
open Go.ChangeShapes Go.WideShapes Go.ChangeAt Go.RowKit
set_option linter.unusedVariables false
set_option maxRecDepth 100000
set_option maxHeartbeats 3200000
theorem put_0 (s:Sd) (b:Int) (w:World) (h:s.ok) (hb:0<=b/\b<=255) :
 Calls Tryz.prog 168 #[(snV s),.int .i64 0,.int .u8 b] w fun e w'=>e = .returned (.tuple #[(snV (⟨s.a.put 0 b,s.b,s.c,s.w⟩:Sd)),.int .i64 0])/\Below w.heap.size w w':=by
 unfold snV
 have i3:=port_at0
 go_enter Tryz.func168,Tryz.ntmps168
 go_upto_region 4 with fail
 go_cut [] (fun wx=>SmW w ⟨s.a.put 0 b,s.b,s.c,s.w⟩ [] (.slice none 0 0) wx)
 case first =>
  refine Pl.cutW (SmW w s [] (.slice none 0 0)) (SmW.two w s) ?_
  intro W hW
  have HW:=hid hW
  obtain ⟨c0,c1,c2,c3,c4,tz,tf⟩:=hW.b.w0
  clear hW
  go_region_with (first
   | (go_at_call 199;refine (ports_any _).mono ?_;rintro e w1 ⟨rfl,hb1⟩;have HW1:=hid (HW.out.drew.kept hb1);obtain ⟨d0,d1,d2,d3,d4,dz,df⟩:=HW1.out.b.w0)
   | (go_at_call 255;refine (port_0 s.a b _ h.a hb).mono ?_;rintro e w2 ⟨rfl,hb2⟩;have HW2:=hid (HW1.out.kept hb2);obtain ⟨e0,e1,e2,e3,e4,ez,ef⟩:=HW2.out.b.w0))
  all_goals (go_wp2_with fail;go_meet)
  all_goals exact HW2.out.v0 _
 case rest =>
  have HT:=hid hcut
  clear hcut
  go_wp2_with (first
   | (refine wpList_load_mid rfl 36 _ rfl w.heap.size 0 rfl (scs ⟨s.a.put 0 b,s.b,s.c,s.w⟩) _ HT.out.b.c Tryz.underlying36 rfl info_sound ?_)
   | (refine wpList_store_mid rfl 36 _ _ rfl (w.heap.size+1) 0 _ rfl rfl (there16 HT.out.r) info_sound (all16 _) ?_
      refine Pl.cutL (fun W=>Below w.heap.size w W/\Bx W (w.heap.size+1) (scs ⟨s.a.put 0 b,s.b,s.c,s.w⟩)) ⟨?_,?_⟩ ?_
      ·exact Bl.puts HT.out.low (Nat.le_succ _) _
      ·exact HT.out.r.puts 0 (scs ⟨s.a.put 0 b,s.b,s.c,s.w⟩) (by simp)
      rintro W ⟨hlow,hbox⟩
      have HLO:=hid hlow
      have HBX:=hid hbox
      clear hlow hbox))
  have hl:=loadS HBX.out
  refine bodyPost_ret (v:=.tuple #[(.agg #[.int .u16 (⟨s.a.put 0 b,s.b,s.c,s.w⟩:Sd).a.p,.int .u16 (⟨s.a.put 0 b,s.b,s.c,s.w⟩:Sd).a.c,.int .u8 (⟨s.a.put 0 b,s.b,s.c,s.w⟩:Sd).a.l,.bool (⟨s.a.put 0 b,s.b,s.c,s.w⟩:Sd).a.h,.int .u16 (⟨s.a.put 0 b,s.b,s.c,s.w⟩:Sd).a.n,.int .u16 (⟨s.a.put 0 b,s.b,s.c,s.w⟩:Sd).b.p,.int .u16 (⟨s.a.put 0 b,s.b,s.c,s.w⟩:Sd).b.c,.int .u8 (⟨s.a.put 0 b,s.b,s.c,s.w⟩:Sd).b.l,.bool (⟨s.a.put 0 b,s.b,s.c,s.w⟩:Sd).b.h,.int .u16 (⟨s.a.put 0 b,s.b,s.c,s.w⟩:Sd).b.n,.int .u16 (⟨s.a.put 0 b,s.b,s.c,s.w⟩:Sd).c.p,.int .u16 (⟨s.a.put 0 b,s.b,s.c,s.w⟩:Sd).c.c,.int .u8 (⟨s.a.put 0 b,s.b,s.c,s.w⟩:Sd).c.l,.bool (⟨s.a.put 0 b,s.b,s.c,s.w⟩:Sd).c.h,.int .u16 (⟨s.a.put 0 b,s.b,s.c,s.w⟩:Sd).c.n,.int .i64 (⟨s.a.put 0 b,s.b,s.c,s.w⟩:Sd).w]),.int .i64 0]) ?_ rfl ⟨rfl,HLO.out⟩
  simp only [results,Tryz.results168]
  simp
  show (Result.andThen (Sem.run Tryz.prog (loadVar 36 ⟨w.heap.size+1,0,none⟩) W) _)=_
  rw [hl]
  rfl
theorem put_1 (s:Sd) (b:Int) (w:World) (h:s.ok) (hb:0<=b/\b<=255) :
 Calls Tryz.prog 168 #[(snV s),.int .i64 1,.int .u8 b] w fun e w'=>e = .returned (.tuple #[(snV (⟨s.a.put 1 b,s.b,s.c,s.w⟩:Sd)),.int .i64 0])/\Below w.heap.size w w':=by
 unfold snV
 have i3:=port_at1
 go_enter Tryz.func168,Tryz.ntmps168
 go_upto_region 4 with fail
 go_cut [] (fun wx=>SmW w ⟨s.a.put 1 b,s.b,s.c,s.w⟩ [] (.slice none 0 0) wx)
 case first =>
  refine Pl.cutW (SmW w s [] (.slice none 0 0)) (SmW.two w s) ?_
  intro W hW
  have HW:=hid hW
  obtain ⟨c0,c1,c2,c3,c4,tz,tf⟩:=hW.b.w0
  clear hW
  go_region_with (first
   | (go_at_call 199;refine (ports_any _).mono ?_;rintro e w1 ⟨rfl,hb1⟩;have HW1:=hid (HW.out.drew.kept hb1);obtain ⟨d0,d1,d2,d3,d4,dz,df⟩:=HW1.out.b.w0)
   | (go_at_call 257;refine (port_1 s.a b _ h.a hb).mono ?_;rintro e w2 ⟨rfl,hb2⟩;have HW2:=hid (HW1.out.kept hb2);obtain ⟨e0,e1,e2,e3,e4,ez,ef⟩:=HW2.out.b.w0))
  all_goals (go_wp2_with fail;go_meet)
  all_goals exact HW2.out.v0 _
 case rest =>
  have HT:=hid hcut
  clear hcut
  go_wp2_with (first
   | (refine wpList_load_mid rfl 36 _ rfl w.heap.size 0 rfl (scs ⟨s.a.put 1 b,s.b,s.c,s.w⟩) _ HT.out.b.c Tryz.underlying36 rfl info_sound ?_)
   | (refine wpList_store_mid rfl 36 _ _ rfl (w.heap.size+1) 0 _ rfl rfl (there16 HT.out.r) info_sound (all16 _) ?_
      refine Pl.cutL (fun W=>Below w.heap.size w W/\Bx W (w.heap.size+1) (scs ⟨s.a.put 1 b,s.b,s.c,s.w⟩)) ⟨?_,?_⟩ ?_
      ·exact Bl.puts HT.out.low (Nat.le_succ _) _
      ·exact HT.out.r.puts 0 (scs ⟨s.a.put 1 b,s.b,s.c,s.w⟩) (by simp)
      rintro W ⟨hlow,hbox⟩
      have HLO:=hid hlow
      have HBX:=hid hbox
      clear hlow hbox))
  have hl:=loadS HBX.out
  refine bodyPost_ret (v:=.tuple #[(.agg #[.int .u16 (⟨s.a.put 1 b,s.b,s.c,s.w⟩:Sd).a.p,.int .u16 (⟨s.a.put 1 b,s.b,s.c,s.w⟩:Sd).a.c,.int .u8 (⟨s.a.put 1 b,s.b,s.c,s.w⟩:Sd).a.l,.bool (⟨s.a.put 1 b,s.b,s.c,s.w⟩:Sd).a.h,.int .u16 (⟨s.a.put 1 b,s.b,s.c,s.w⟩:Sd).a.n,.int .u16 (⟨s.a.put 1 b,s.b,s.c,s.w⟩:Sd).b.p,.int .u16 (⟨s.a.put 1 b,s.b,s.c,s.w⟩:Sd).b.c,.int .u8 (⟨s.a.put 1 b,s.b,s.c,s.w⟩:Sd).b.l,.bool (⟨s.a.put 1 b,s.b,s.c,s.w⟩:Sd).b.h,.int .u16 (⟨s.a.put 1 b,s.b,s.c,s.w⟩:Sd).b.n,.int .u16 (⟨s.a.put 1 b,s.b,s.c,s.w⟩:Sd).c.p,.int .u16 (⟨s.a.put 1 b,s.b,s.c,s.w⟩:Sd).c.c,.int .u8 (⟨s.a.put 1 b,s.b,s.c,s.w⟩:Sd).c.l,.bool (⟨s.a.put 1 b,s.b,s.c,s.w⟩:Sd).c.h,.int .u16 (⟨s.a.put 1 b,s.b,s.c,s.w⟩:Sd).c.n,.int .i64 (⟨s.a.put 1 b,s.b,s.c,s.w⟩:Sd).w]),.int .i64 0]) ?_ rfl ⟨rfl,HLO.out⟩
  simp only [results,Tryz.results168]
  simp
  show (Result.andThen (Sem.run Tryz.prog (loadVar 36 ⟨w.heap.size+1,0,none⟩) W) _)=_
  rw [hl]
  rfl
theorem put_2 (s:Sd) (b:Int) (w:World) (h:s.ok) (hb:0<=b/\b<=255) :
 Calls Tryz.prog 168 #[(snV s),.int .i64 2,.int .u8 b] w fun e w'=>e = .returned (.tuple #[(snV (⟨s.a.put 2 b,s.b,s.c,s.w⟩:Sd)),.int .i64 0])/\Below w.heap.size w w':=by
 unfold snV
 have i3:=port_at2
 go_enter Tryz.func168,Tryz.ntmps168
 go_upto_region 4 with fail
 go_cut [] (fun wx=>SmW w ⟨s.a.put 2 b,s.b,s.c,s.w⟩ [] (.slice none 0 0) wx)
 case first =>
  refine Pl.cutW (SmW w s [] (.slice none 0 0)) (SmW.two w s) ?_
  intro W hW
  have HW:=hid hW
  obtain ⟨c0,c1,c2,c3,c4,tz,tf⟩:=hW.b.w0
  clear hW
  go_region_with (first
   | (go_at_call 199;refine (ports_any _).mono ?_;rintro e w1 ⟨rfl,hb1⟩;have HW1:=hid (HW.out.drew.kept hb1);obtain ⟨d0,d1,d2,d3,d4,dz,df⟩:=HW1.out.b.w0)
   | (go_at_call 259;refine (port_2 s.a b _ h.a hb).mono ?_;rintro e w2 ⟨rfl,hb2⟩;have HW2:=hid (HW1.out.kept hb2);obtain ⟨e0,e1,e2,e3,e4,ez,ef⟩:=HW2.out.b.w0))
  all_goals (go_wp2_with fail;go_meet)
  all_goals exact HW2.out.v0 _
 case rest =>
  have HT:=hid hcut
  clear hcut
  go_wp2_with (first
   | (refine wpList_load_mid rfl 36 _ rfl w.heap.size 0 rfl (scs ⟨s.a.put 2 b,s.b,s.c,s.w⟩) _ HT.out.b.c Tryz.underlying36 rfl info_sound ?_)
   | (refine wpList_store_mid rfl 36 _ _ rfl (w.heap.size+1) 0 _ rfl rfl (there16 HT.out.r) info_sound (all16 _) ?_
      refine Pl.cutL (fun W=>Below w.heap.size w W/\Bx W (w.heap.size+1) (scs ⟨s.a.put 2 b,s.b,s.c,s.w⟩)) ⟨?_,?_⟩ ?_
      ·exact Bl.puts HT.out.low (Nat.le_succ _) _
      ·exact HT.out.r.puts 0 (scs ⟨s.a.put 2 b,s.b,s.c,s.w⟩) (by simp)
      rintro W ⟨hlow,hbox⟩
      have HLO:=hid hlow
      have HBX:=hid hbox
      clear hlow hbox))
  have hl:=loadS HBX.out
  refine bodyPost_ret (v:=.tuple #[(.agg #[.int .u16 (⟨s.a.put 2 b,s.b,s.c,s.w⟩:Sd).a.p,.int .u16 (⟨s.a.put 2 b,s.b,s.c,s.w⟩:Sd).a.c,.int .u8 (⟨s.a.put 2 b,s.b,s.c,s.w⟩:Sd).a.l,.bool (⟨s.a.put 2 b,s.b,s.c,s.w⟩:Sd).a.h,.int .u16 (⟨s.a.put 2 b,s.b,s.c,s.w⟩:Sd).a.n,.int .u16 (⟨s.a.put 2 b,s.b,s.c,s.w⟩:Sd).b.p,.int .u16 (⟨s.a.put 2 b,s.b,s.c,s.w⟩:Sd).b.c,.int .u8 (⟨s.a.put 2 b,s.b,s.c,s.w⟩:Sd).b.l,.bool (⟨s.a.put 2 b,s.b,s.c,s.w⟩:Sd).b.h,.int .u16 (⟨s.a.put 2 b,s.b,s.c,s.w⟩:Sd).b.n,.int .u16 (⟨s.a.put 2 b,s.b,s.c,s.w⟩:Sd).c.p,.int .u16 (⟨s.a.put 2 b,s.b,s.c,s.w⟩:Sd).c.c,.int .u8 (⟨s.a.put 2 b,s.b,s.c,s.w⟩:Sd).c.l,.bool (⟨s.a.put 2 b,s.b,s.c,s.w⟩:Sd).c.h,.int .u16 (⟨s.a.put 2 b,s.b,s.c,s.w⟩:Sd).c.n,.int .i64 (⟨s.a.put 2 b,s.b,s.c,s.w⟩:Sd).w]),.int .i64 0]) ?_ rfl ⟨rfl,HLO.out⟩
  simp only [results,Tryz.results168]
  simp
  show (Result.andThen (Sem.run Tryz.prog (loadVar 36 ⟨w.heap.size+1,0,none⟩) W) _)=_
  rw [hl]
  rfl
theorem put_3 (s:Sd) (b:Int) (w:World) (h:s.ok) (hb:0<=b/\b<=255) :
 Calls Tryz.prog 168 #[(snV s),.int .i64 3,.int .u8 b] w fun e w'=>e = .returned (.tuple #[(snV (⟨s.a.put 3 b,s.b,s.c,s.w⟩:Sd)),.int .i64 0])/\Below w.heap.size w w':=by
 unfold snV
 have i3:=port_at3
 go_enter Tryz.func168,Tryz.ntmps168
 go_upto_region 4 with fail
 go_cut [] (fun wx=>SmW w ⟨s.a.put 3 b,s.b,s.c,s.w⟩ [] (.slice none 0 0) wx)
 case first =>
  refine Pl.cutW (SmW w s [] (.slice none 0 0)) (SmW.two w s) ?_
  intro W hW
  have HW:=hid hW
  obtain ⟨c0,c1,c2,c3,c4,tz,tf⟩:=hW.b.w0
  clear hW
  go_region_with (first
   | (go_at_call 199;refine (ports_any _).mono ?_;rintro e w1 ⟨rfl,hb1⟩;have HW1:=hid (HW.out.drew.kept hb1);obtain ⟨d0,d1,d2,d3,d4,dz,df⟩:=HW1.out.b.w0)
   | (go_at_call 260;refine (port_3 s.a b _ h.a hb).mono ?_;rintro e w2 ⟨rfl,hb2⟩;have HW2:=hid (HW1.out.kept hb2);obtain ⟨e0,e1,e2,e3,e4,ez,ef⟩:=HW2.out.b.w0))
  all_goals (go_wp2_with fail;go_meet)
  all_goals exact HW2.out.v0 _
 case rest =>
  have HT:=hid hcut
  clear hcut
  go_wp2_with (first
   | (refine wpList_load_mid rfl 36 _ rfl w.heap.size 0 rfl (scs ⟨s.a.put 3 b,s.b,s.c,s.w⟩) _ HT.out.b.c Tryz.underlying36 rfl info_sound ?_)
   | (refine wpList_store_mid rfl 36 _ _ rfl (w.heap.size+1) 0 _ rfl rfl (there16 HT.out.r) info_sound (all16 _) ?_
      refine Pl.cutL (fun W=>Below w.heap.size w W/\Bx W (w.heap.size+1) (scs ⟨s.a.put 3 b,s.b,s.c,s.w⟩)) ⟨?_,?_⟩ ?_
      ·exact Bl.puts HT.out.low (Nat.le_succ _) _
      ·exact HT.out.r.puts 0 (scs ⟨s.a.put 3 b,s.b,s.c,s.w⟩) (by simp)
      rintro W ⟨hlow,hbox⟩
      have HLO:=hid hlow
      have HBX:=hid hbox
      clear hlow hbox))
  have hl:=loadS HBX.out
  refine bodyPost_ret (v:=.tuple #[(.agg #[.int .u16 (⟨s.a.put 3 b,s.b,s.c,s.w⟩:Sd).a.p,.int .u16 (⟨s.a.put 3 b,s.b,s.c,s.w⟩:Sd).a.c,.int .u8 (⟨s.a.put 3 b,s.b,s.c,s.w⟩:Sd).a.l,.bool (⟨s.a.put 3 b,s.b,s.c,s.w⟩:Sd).a.h,.int .u16 (⟨s.a.put 3 b,s.b,s.c,s.w⟩:Sd).a.n,.int .u16 (⟨s.a.put 3 b,s.b,s.c,s.w⟩:Sd).b.p,.int .u16 (⟨s.a.put 3 b,s.b,s.c,s.w⟩:Sd).b.c,.int .u8 (⟨s.a.put 3 b,s.b,s.c,s.w⟩:Sd).b.l,.bool (⟨s.a.put 3 b,s.b,s.c,s.w⟩:Sd).b.h,.int .u16 (⟨s.a.put 3 b,s.b,s.c,s.w⟩:Sd).b.n,.int .u16 (⟨s.a.put 3 b,s.b,s.c,s.w⟩:Sd).c.p,.int .u16 (⟨s.a.put 3 b,s.b,s.c,s.w⟩:Sd).c.c,.int .u8 (⟨s.a.put 3 b,s.b,s.c,s.w⟩:Sd).c.l,.bool (⟨s.a.put 3 b,s.b,s.c,s.w⟩:Sd).c.h,.int .u16 (⟨s.a.put 3 b,s.b,s.c,s.w⟩:Sd).c.n,.int .i64 (⟨s.a.put 3 b,s.b,s.c,s.w⟩:Sd).w]),.int .i64 0]) ?_ rfl ⟨rfl,HLO.out⟩
  simp only [results,Tryz.results168]
  simp
  show (Result.andThen (Sem.run Tryz.prog (loadVar 36 ⟨w.heap.size+1,0,none⟩) W) _)=_
  rw [hl]
  rfl
theorem put_4 (s:Sd) (b:Int) (w:World) (h:s.ok) (hb:0<=b/\b<=255) :
 Calls Tryz.prog 168 #[(snV s),.int .i64 4,.int .u8 b] w fun e w'=>e = .returned (.tuple #[(snV (⟨s.a.put 4 b,s.b,s.c,s.w⟩:Sd)),.int .i64 0])/\Below w.heap.size w w':=by
 unfold snV
 have i3:=port_at4
 go_enter Tryz.func168,Tryz.ntmps168
 go_upto_region 4 with fail
 go_cut [] (fun wx=>SmW w ⟨s.a.put 4 b,s.b,s.c,s.w⟩ [] (.slice none 0 0) wx)
 case first =>
  refine Pl.cutW (SmW w s [] (.slice none 0 0)) (SmW.two w s) ?_
  intro W hW
  have HW:=hid hW
  obtain ⟨c0,c1,c2,c3,c4,tz,tf⟩:=hW.b.w0
  clear hW
  go_region_with (first
   | (go_at_call 199;refine (ports_any _).mono ?_;rintro e w1 ⟨rfl,hb1⟩;have HW1:=hid (HW.out.drew.kept hb1);obtain ⟨d0,d1,d2,d3,d4,dz,df⟩:=HW1.out.b.w0)
   | (go_at_call 261;refine (port_4 s.a b _ h.a hb).mono ?_;rintro e w2 ⟨rfl,hb2⟩;have HW2:=hid (HW1.out.kept hb2);obtain ⟨e0,e1,e2,e3,e4,ez,ef⟩:=HW2.out.b.w0))
  all_goals (go_wp2_with fail;go_meet)
  all_goals exact HW2.out.v0 _
 case rest =>
  have HT:=hid hcut
  clear hcut
  go_wp2_with (first
   | (refine wpList_load_mid rfl 36 _ rfl w.heap.size 0 rfl (scs ⟨s.a.put 4 b,s.b,s.c,s.w⟩) _ HT.out.b.c Tryz.underlying36 rfl info_sound ?_)
   | (refine wpList_store_mid rfl 36 _ _ rfl (w.heap.size+1) 0 _ rfl rfl (there16 HT.out.r) info_sound (all16 _) ?_
      refine Pl.cutL (fun W=>Below w.heap.size w W/\Bx W (w.heap.size+1) (scs ⟨s.a.put 4 b,s.b,s.c,s.w⟩)) ⟨?_,?_⟩ ?_
      ·exact Bl.puts HT.out.low (Nat.le_succ _) _
      ·exact HT.out.r.puts 0 (scs ⟨s.a.put 4 b,s.b,s.c,s.w⟩) (by simp)
      rintro W ⟨hlow,hbox⟩
      have HLO:=hid hlow
      have HBX:=hid hbox
      clear hlow hbox))
  have hl:=loadS HBX.out
  refine bodyPost_ret (v:=.tuple #[(.agg #[.int .u16 (⟨s.a.put 4 b,s.b,s.c,s.w⟩:Sd).a.p,.int .u16 (⟨s.a.put 4 b,s.b,s.c,s.w⟩:Sd).a.c,.int .u8 (⟨s.a.put 4 b,s.b,s.c,s.w⟩:Sd).a.l,.bool (⟨s.a.put 4 b,s.b,s.c,s.w⟩:Sd).a.h,.int .u16 (⟨s.a.put 4 b,s.b,s.c,s.w⟩:Sd).a.n,.int .u16 (⟨s.a.put 4 b,s.b,s.c,s.w⟩:Sd).b.p,.int .u16 (⟨s.a.put 4 b,s.b,s.c,s.w⟩:Sd).b.c,.int .u8 (⟨s.a.put 4 b,s.b,s.c,s.w⟩:Sd).b.l,.bool (⟨s.a.put 4 b,s.b,s.c,s.w⟩:Sd).b.h,.int .u16 (⟨s.a.put 4 b,s.b,s.c,s.w⟩:Sd).b.n,.int .u16 (⟨s.a.put 4 b,s.b,s.c,s.w⟩:Sd).c.p,.int .u16 (⟨s.a.put 4 b,s.b,s.c,s.w⟩:Sd).c.c,.int .u8 (⟨s.a.put 4 b,s.b,s.c,s.w⟩:Sd).c.l,.bool (⟨s.a.put 4 b,s.b,s.c,s.w⟩:Sd).c.h,.int .u16 (⟨s.a.put 4 b,s.b,s.c,s.w⟩:Sd).c.n,.int .i64 (⟨s.a.put 4 b,s.b,s.c,s.w⟩:Sd).w]),.int .i64 0]) ?_ rfl ⟨rfl,HLO.out⟩
  simp only [results,Tryz.results168]
  simp
  show (Result.andThen (Sem.run Tryz.prog (loadVar 36 ⟨w.heap.size+1,0,none⟩) W) _)=_
  rw [hl]
  rfl
theorem put_5 (s:Sd) (b:Int) (w:World) (h:s.ok) (hb:0<=b/\b<=255) :
 Calls Tryz.prog 168 #[(snV s),.int .i64 5,.int .u8 b] w fun e w'=>e = .returned (.tuple #[(snV (⟨s.a.put 5 b,s.b,s.c,s.w⟩:Sd)),.int .i64 0])/\Below w.heap.size w w':=by
 unfold snV
 have i3:=port_at5
 go_enter Tryz.func168,Tryz.ntmps168
 go_upto_region 4 with fail
 go_cut [] (fun wx=>SmW w ⟨s.a.put 5 b,s.b,s.c,s.w⟩ [] (.slice none 0 0) wx)
 case first =>
  refine Pl.cutW (SmW w s [] (.slice none 0 0)) (SmW.two w s) ?_
  intro W hW
  have HW:=hid hW
  obtain ⟨c0,c1,c2,c3,c4,tz,tf⟩:=hW.b.w0
  clear hW
  go_region_with (first
   | (go_at_call 199;refine (ports_any _).mono ?_;rintro e w1 ⟨rfl,hb1⟩;have HW1:=hid (HW.out.drew.kept hb1);obtain ⟨d0,d1,d2,d3,d4,dz,df⟩:=HW1.out.b.w0)
   | (go_at_call 254;refine (port_id5 s.a b _).mono ?_;rintro e w2 ⟨rfl,hb2⟩;have HW2:=hid (HW1.out.kept hb2);obtain ⟨e0,e1,e2,e3,e4,ez,ef⟩:=HW2.out.b.w0))
  all_goals (go_wp2_with fail;go_meet)
  all_goals exact HW2.out.v0 _
 case rest =>
  have HT:=hid hcut
  clear hcut
  go_wp2_with (first
   | (refine wpList_load_mid rfl 36 _ rfl w.heap.size 0 rfl (scs ⟨s.a.put 5 b,s.b,s.c,s.w⟩) _ HT.out.b.c Tryz.underlying36 rfl info_sound ?_)
   | (refine wpList_store_mid rfl 36 _ _ rfl (w.heap.size+1) 0 _ rfl rfl (there16 HT.out.r) info_sound (all16 _) ?_
      refine Pl.cutL (fun W=>Below w.heap.size w W/\Bx W (w.heap.size+1) (scs ⟨s.a.put 5 b,s.b,s.c,s.w⟩)) ⟨?_,?_⟩ ?_
      ·exact Bl.puts HT.out.low (Nat.le_succ _) _
      ·exact HT.out.r.puts 0 (scs ⟨s.a.put 5 b,s.b,s.c,s.w⟩) (by simp)
      rintro W ⟨hlow,hbox⟩
      have HLO:=hid hlow
      have HBX:=hid hbox
      clear hlow hbox))
  have hl:=loadS HBX.out
  refine bodyPost_ret (v:=.tuple #[(.agg #[.int .u16 (⟨s.a.put 5 b,s.b,s.c,s.w⟩:Sd).a.p,.int .u16 (⟨s.a.put 5 b,s.b,s.c,s.w⟩:Sd).a.c,.int .u8 (⟨s.a.put 5 b,s.b,s.c,s.w⟩:Sd).a.l,.bool (⟨s.a.put 5 b,s.b,s.c,s.w⟩:Sd).a.h,.int .u16 (⟨s.a.put 5 b,s.b,s.c,s.w⟩:Sd).a.n,.int .u16 (⟨s.a.put 5 b,s.b,s.c,s.w⟩:Sd).b.p,.int .u16 (⟨s.a.put 5 b,s.b,s.c,s.w⟩:Sd).b.c,.int .u8 (⟨s.a.put 5 b,s.b,s.c,s.w⟩:Sd).b.l,.bool (⟨s.a.put 5 b,s.b,s.c,s.w⟩:Sd).b.h,.int .u16 (⟨s.a.put 5 b,s.b,s.c,s.w⟩:Sd).b.n,.int .u16 (⟨s.a.put 5 b,s.b,s.c,s.w⟩:Sd).c.p,.int .u16 (⟨s.a.put 5 b,s.b,s.c,s.w⟩:Sd).c.c,.int .u8 (⟨s.a.put 5 b,s.b,s.c,s.w⟩:Sd).c.l,.bool (⟨s.a.put 5 b,s.b,s.c,s.w⟩:Sd).c.h,.int .u16 (⟨s.a.put 5 b,s.b,s.c,s.w⟩:Sd).c.n,.int .i64 (⟨s.a.put 5 b,s.b,s.c,s.w⟩:Sd).w]),.int .i64 0]) ?_ rfl ⟨rfl,HLO.out⟩
  simp only [results,Tryz.results168]
  simp
  show (Result.andThen (Sem.run Tryz.prog (loadVar 36 ⟨w.heap.size+1,0,none⟩) W) _)=_
  rw [hl]
  rfl
theorem put_6 (s:Sd) (b:Int) (w:World) (h:s.ok) (hb:0<=b/\b<=255) :
 Calls Tryz.prog 168 #[(snV s),.int .i64 6,.int .u8 b] w fun e w'=>e = .returned (.tuple #[(snV (⟨s.a.put 6 b,s.b,s.c,s.w⟩:Sd)),.int .i64 0])/\Below w.heap.size w w':=by
 unfold snV
 have i3:=port_at6
 go_enter Tryz.func168,Tryz.ntmps168
 go_upto_region 4 with fail
 go_cut [] (fun wx=>SmW w ⟨s.a.put 6 b,s.b,s.c,s.w⟩ [] (.slice none 0 0) wx)
 case first =>
  refine Pl.cutW (SmW w s [] (.slice none 0 0)) (SmW.two w s) ?_
  intro W hW
  have HW:=hid hW
  obtain ⟨c0,c1,c2,c3,c4,tz,tf⟩:=hW.b.w0
  clear hW
  go_region_with (first
   | (go_at_call 199;refine (ports_any _).mono ?_;rintro e w1 ⟨rfl,hb1⟩;have HW1:=hid (HW.out.drew.kept hb1);obtain ⟨d0,d1,d2,d3,d4,dz,df⟩:=HW1.out.b.w0)
   | (go_at_call 254;refine (port_id6 s.a b _).mono ?_;rintro e w2 ⟨rfl,hb2⟩;have HW2:=hid (HW1.out.kept hb2);obtain ⟨e0,e1,e2,e3,e4,ez,ef⟩:=HW2.out.b.w0))
  all_goals (go_wp2_with fail;go_meet)
  all_goals exact HW2.out.v0 _
 case rest =>
  have HT:=hid hcut
  clear hcut
  go_wp2_with (first
   | (refine wpList_load_mid rfl 36 _ rfl w.heap.size 0 rfl (scs ⟨s.a.put 6 b,s.b,s.c,s.w⟩) _ HT.out.b.c Tryz.underlying36 rfl info_sound ?_)
   | (refine wpList_store_mid rfl 36 _ _ rfl (w.heap.size+1) 0 _ rfl rfl (there16 HT.out.r) info_sound (all16 _) ?_
      refine Pl.cutL (fun W=>Below w.heap.size w W/\Bx W (w.heap.size+1) (scs ⟨s.a.put 6 b,s.b,s.c,s.w⟩)) ⟨?_,?_⟩ ?_
      ·exact Bl.puts HT.out.low (Nat.le_succ _) _
      ·exact HT.out.r.puts 0 (scs ⟨s.a.put 6 b,s.b,s.c,s.w⟩) (by simp)
      rintro W ⟨hlow,hbox⟩
      have HLO:=hid hlow
      have HBX:=hid hbox
      clear hlow hbox))
  have hl:=loadS HBX.out
  refine bodyPost_ret (v:=.tuple #[(.agg #[.int .u16 (⟨s.a.put 6 b,s.b,s.c,s.w⟩:Sd).a.p,.int .u16 (⟨s.a.put 6 b,s.b,s.c,s.w⟩:Sd).a.c,.int .u8 (⟨s.a.put 6 b,s.b,s.c,s.w⟩:Sd).a.l,.bool (⟨s.a.put 6 b,s.b,s.c,s.w⟩:Sd).a.h,.int .u16 (⟨s.a.put 6 b,s.b,s.c,s.w⟩:Sd).a.n,.int .u16 (⟨s.a.put 6 b,s.b,s.c,s.w⟩:Sd).b.p,.int .u16 (⟨s.a.put 6 b,s.b,s.c,s.w⟩:Sd).b.c,.int .u8 (⟨s.a.put 6 b,s.b,s.c,s.w⟩:Sd).b.l,.bool (⟨s.a.put 6 b,s.b,s.c,s.w⟩:Sd).b.h,.int .u16 (⟨s.a.put 6 b,s.b,s.c,s.w⟩:Sd).b.n,.int .u16 (⟨s.a.put 6 b,s.b,s.c,s.w⟩:Sd).c.p,.int .u16 (⟨s.a.put 6 b,s.b,s.c,s.w⟩:Sd).c.c,.int .u8 (⟨s.a.put 6 b,s.b,s.c,s.w⟩:Sd).c.l,.bool (⟨s.a.put 6 b,s.b,s.c,s.w⟩:Sd).c.h,.int .u16 (⟨s.a.put 6 b,s.b,s.c,s.w⟩:Sd).c.n,.int .i64 (⟨s.a.put 6 b,s.b,s.c,s.w⟩:Sd).w]),.int .i64 0]) ?_ rfl ⟨rfl,HLO.out⟩
  simp only [results,Tryz.results168]
  simp
  show (Result.andThen (Sem.run Tryz.prog (loadVar 36 ⟨w.heap.size+1,0,none⟩) W) _)=_
  rw [hl]
  rfl
theorem put_7 (s:Sd) (b:Int) (w:World) (h:s.ok) (hb:0<=b/\b<=255) :
 Calls Tryz.prog 168 #[(snV s),.int .i64 7,.int .u8 b] w fun e w'=>e = .returned (.tuple #[(snV (⟨s.a.put 7 b,s.b,s.c,s.w⟩:Sd)),.int .i64 0])/\Below w.heap.size w w':=by
 unfold snV
 have i3:=port_at7
 go_enter Tryz.func168,Tryz.ntmps168
 go_upto_region 4 with fail
 go_cut [] (fun wx=>SmW w ⟨s.a.put 7 b,s.b,s.c,s.w⟩ [] (.slice none 0 0) wx)
 case first =>
  refine Pl.cutW (SmW w s [] (.slice none 0 0)) (SmW.two w s) ?_
  intro W hW
  have HW:=hid hW
  obtain ⟨c0,c1,c2,c3,c4,tz,tf⟩:=hW.b.w0
  clear hW
  go_region_with (first
   | (go_at_call 199;refine (ports_any _).mono ?_;rintro e w1 ⟨rfl,hb1⟩;have HW1:=hid (HW.out.drew.kept hb1);obtain ⟨d0,d1,d2,d3,d4,dz,df⟩:=HW1.out.b.w0)
   | (go_at_call 254;refine (port_id7 s.a b _).mono ?_;rintro e w2 ⟨rfl,hb2⟩;have HW2:=hid (HW1.out.kept hb2);obtain ⟨e0,e1,e2,e3,e4,ez,ef⟩:=HW2.out.b.w0))
  all_goals (go_wp2_with fail;go_meet)
  all_goals exact HW2.out.v0 _
 case rest =>
  have HT:=hid hcut
  clear hcut
  go_wp2_with (first
   | (refine wpList_load_mid rfl 36 _ rfl w.heap.size 0 rfl (scs ⟨s.a.put 7 b,s.b,s.c,s.w⟩) _ HT.out.b.c Tryz.underlying36 rfl info_sound ?_)
   | (refine wpList_store_mid rfl 36 _ _ rfl (w.heap.size+1) 0 _ rfl rfl (there16 HT.out.r) info_sound (all16 _) ?_
      refine Pl.cutL (fun W=>Below w.heap.size w W/\Bx W (w.heap.size+1) (scs ⟨s.a.put 7 b,s.b,s.c,s.w⟩)) ⟨?_,?_⟩ ?_
      ·exact Bl.puts HT.out.low (Nat.le_succ _) _
      ·exact HT.out.r.puts 0 (scs ⟨s.a.put 7 b,s.b,s.c,s.w⟩) (by simp)
      rintro W ⟨hlow,hbox⟩
      have HLO:=hid hlow
      have HBX:=hid hbox
      clear hlow hbox))
  have hl:=loadS HBX.out
  refine bodyPost_ret (v:=.tuple #[(.agg #[.int .u16 (⟨s.a.put 7 b,s.b,s.c,s.w⟩:Sd).a.p,.int .u16 (⟨s.a.put 7 b,s.b,s.c,s.w⟩:Sd).a.c,.int .u8 (⟨s.a.put 7 b,s.b,s.c,s.w⟩:Sd).a.l,.bool (⟨s.a.put 7 b,s.b,s.c,s.w⟩:Sd).a.h,.int .u16 (⟨s.a.put 7 b,s.b,s.c,s.w⟩:Sd).a.n,.int .u16 (⟨s.a.put 7 b,s.b,s.c,s.w⟩:Sd).b.p,.int .u16 (⟨s.a.put 7 b,s.b,s.c,s.w⟩:Sd).b.c,.int .u8 (⟨s.a.put 7 b,s.b,s.c,s.w⟩:Sd).b.l,.bool (⟨s.a.put 7 b,s.b,s.c,s.w⟩:Sd).b.h,.int .u16 (⟨s.a.put 7 b,s.b,s.c,s.w⟩:Sd).b.n,.int .u16 (⟨s.a.put 7 b,s.b,s.c,s.w⟩:Sd).c.p,.int .u16 (⟨s.a.put 7 b,s.b,s.c,s.w⟩:Sd).c.c,.int .u8 (⟨s.a.put 7 b,s.b,s.c,s.w⟩:Sd).c.l,.bool (⟨s.a.put 7 b,s.b,s.c,s.w⟩:Sd).c.h,.int .u16 (⟨s.a.put 7 b,s.b,s.c,s.w⟩:Sd).c.n,.int .i64 (⟨s.a.put 7 b,s.b,s.c,s.w⟩:Sd).w]),.int .i64 0]) ?_ rfl ⟨rfl,HLO.out⟩
  simp only [results,Tryz.results168]
  simp
  show (Result.andThen (Sem.run Tryz.prog (loadVar 36 ⟨w.heap.size+1,0,none⟩) W) _)=_
  rw [hl]
  rfl
end Go.Proofs.YtbhpfkjfijdmaaaGreatDoor
