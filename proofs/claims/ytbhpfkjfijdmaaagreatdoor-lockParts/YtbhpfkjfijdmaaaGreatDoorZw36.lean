/-
  Parts of a proof, joined.
-/
import Derived.Test.YtbhpfkjfijdmaaaGreatDoorZw17
import Derived.Test.YtbhpfkjfijdmaaaGreatDoorZw18
import Derived.ChangeKeysEq
import Derived.Laws.StructEq
import Derived.Test.YtbhpfkjfijdmaaaGreatDoorZw26
import Derived.Deep.DeepCutAuto
import Derived.Test.YtbhpfkjfijdmaaaGreatDoorZw35
import Derived.Test.YtbhpfkjfijdmaaaGreatDoorZw24
namespace Go.Proofs.YtbhpfkjfijdmaaaGreatDoor
open Go.ChangeShapes Go.WideShapes Go.ChangeAt Go.RowKit
set_option linter.unusedVariables false
set_option maxRecDepth 100000
set_option maxHeartbeats 1600000
theorem Bu.eq_arr (a0 a1 a2 a3 a4 a5 a6 a7:Int) (d:Nat) (w:World) :
 (Op.equalIn (d+2) 23 (.agg #[.int .u16 a0,.int .u16 a1,.int .u16 a2,.int .u16 a3,.int .u16 a4,.int .u16 a5,.int .u16 a6,.int .u16 a7]) (.agg #[.int .u16 a0,.int .u16 a1,.int .u16 a2,.int .u16 a3,.int .u16 a4,.int .u16 a5,.int .u16 a6,.int .u16 a7])).run Tryz.prog w = .ok true w:=by
 have u3:=Tryz.underlying22
 have x3:=Tryz.isAgg22
 have z3:=Tryz.sizeOf22
 have hU:Tryz.prog.cellsOf 22=1:=by kernel_rfl
 have hs:(Tryz.prog.info? 22).isSome=true:=by kernel_rfl
 obtain ⟨i,hi⟩:=Option.isSome_iff_exists.1 hs
 rw [run_equalIn_array w (d+1) _ _ Tryz.underlying23 hi,hU]
 simp only [List.range,List.range.loop,Op.eqItems]
 go_simp
theorem Bu.eq_cpu (c:C.Cpu) (w:World):(binOp .eql 25 (.agg #[.int .u16 (c.r 0),.int .u16 (c.r 1),.int .u16 (c.r 2),.int .u16 (c.r 3),.int .u16 (c.r 4),.int .u16 (c.r 5),.int .u16 (c.r 6),.int .u16 (c.r 7),.int .u16 c.PC,.bool c.Z,.bool c.N,.bool c.C,.bool c.V,.bool c.May,.bool c.Waits]) (.agg #[.int .u16 (c.r 0),.int .u16 (c.r 1),.int .u16 (c.r 2),.int .u16 (c.r 3),.int .u16 (c.r 4),.int .u16 (c.r 5),.int .u16 (c.r 6),.int .u16 (c.r 7),.int .u16 c.PC,.bool c.Z,.bool c.N,.bool c.C,.bool c.V,.bool c.May,.bool c.Waits])).run Tryz.prog w = .ok (.bool true) w:=by
 have u3:=Tryz.underlying22
 have x3:=Tryz.isAgg22
 have z3:=Tryz.sizeOf22
 have u4:=Tryz.underlying4
 have x4:=Tryz.isAgg4
 have z4:=Tryz.sizeOf4
 have x5:=Tryz.isAgg23
 have z5:=Tryz.sizeOf23
 have ha:=Bu.eq_arr (c.r 0) (c.r 1) (c.r 2) (c.r 3) (c.r 4) (c.r 5) (c.r 6) (c.r 7) 9997
 have hS:Tryz.prog.underlying 25=some (.struct (Tryz.prog.fieldsOf 25)):=by kernel_rfl
 have hp:Tryz.prog.stoodInHeld 25=false:=by kernel_rfl
 rw [run_eql_struct,show (10000:Nat)=9999+1 from rfl,run_equalIn_agg w 9999 25 _ _ hS hp]
 simp only [Program.fieldsOf,Tryz.underlying25]
 go_simp
theorem Bu.eq_cpuL (c:C.Cpu) (w:World):(binOp .eql 25 (.agg (cpuL c).toArray) (.agg (cpuL c).toArray)).run Tryz.prog w = .ok (.bool true) w:=Bu.eq_cpu c w
theorem Bu.eq_sndL (s:Sd) (w:World):(binOp .eql 36 (.agg (sndL s).toArray) (.agg (sndL s).toArray)).run Tryz.prog w = .ok (.bool true) w:=eq_sound s w
theorem Bu.eq_pad (d s:Int) (l:Bool) (n:Nat) (w:World):(Op.equalIn (n+2) 28 (.agg #[.int .u8 d,.bool l,.int .u8 s]) (.agg #[.int .u8 d,.bool l,.int .u8 s])).run Tryz.prog w = .ok true w:=by
 have u4:=Tryz.underlying4
 have a4:=Tryz.isAgg4
 have z4:=Tryz.sizeOf4
 have u5:=Tryz.underlying5
 have a5:=Tryz.isAgg5
 have z5:=Tryz.sizeOf5
 have hS:Tryz.prog.underlying 28=some (.struct (Tryz.prog.fieldsOf 28)):=by kernel_rfl
 have hp:Tryz.prog.stoodInHeld 28=false:=by kernel_rfl
 rw [run_equalIn_agg w (n+1) 28 _ _ hS hp]
 simp only [Program.fieldsOf,Tryz.underlying28]
 go_simp
theorem Bu.eq_timer (r c:Int) (on g:Bool) (w:World):(binOp .eql 31 (.agg #[.int .u16 r,.int .u16 c,.bool on,.bool g]) (.agg #[.int .u16 r,.int .u16 c,.bool on,.bool g])).run Tryz.prog w = .ok (.bool true) w:=by
 have u3:=Tryz.underlying22
 have a3:=Tryz.isAgg22
 have z3:=Tryz.sizeOf22
 have u4:=Tryz.underlying4
 have a4:=Tryz.isAgg4
 have z4:=Tryz.sizeOf4
 have hS:Tryz.prog.underlying 31=some (.struct (Tryz.prog.fieldsOf 31)):=by kernel_rfl
 have hp:Tryz.prog.stoodInHeld 31=false:=by kernel_rfl
 rw [run_eql_struct,show (10000:Nat)=9999+1 from rfl,run_equalIn_agg w 9999 31 _ _ hS hp]
 simp only [Program.fieldsOf,Tryz.underlying31]
 go_simp
theorem Bu.eq_beam (l a f:Int) (g:Bool) (w:World):(binOp .eql 38 (.agg #[.int .i64 l,.int .i64 a,.bool g,.int .i64 f]) (.agg #[.int .i64 l,.int .i64 a,.bool g,.int .i64 f])).run Tryz.prog w = .ok (.bool true) w:=by
 have u3:=Tryz.underlying3
 have a3:=Tryz.isAgg3
 have z3:=Tryz.sizeOf3
 have u4:=Tryz.underlying4
 have a4:=Tryz.isAgg4
 have z4:=Tryz.sizeOf4
 have hS:Tryz.prog.underlying 38=some (.struct (Tryz.prog.fieldsOf 38)):=by kernel_rfl
 have hp:Tryz.prog.stoodInHeld 38=false:=by kernel_rfl
 rw [run_eql_struct,show (10000:Nat)=9999+1 from rfl,run_equalIn_agg w 9999 38 _ _ hS hp]
 simp only [Program.fieldsOf,Tryz.underlying38]
 go_simp
theorem Bu.eq_pads (d s d' s':Int) (l l':Bool) (w:World):(binOp .eql 29 (.agg #[.int .u8 d,.bool l,.int .u8 s,.int .u8 d',.bool l',.int .u8 s']) (.agg #[.int .u8 d,.bool l,.int .u8 s,.int .u8 d',.bool l',.int .u8 s'])).run Tryz.prog w = .ok (.bool true) w:=by
 have h0:=Bu.eq_pad d s l 9997
 have h1:=Bu.eq_pad d' s' l' 9997
 have a3:=Tryz.isAgg28
 have z3:=Tryz.sizeOf28
 have hU:Tryz.prog.cellsOf 28=3:=by kernel_rfl
 have hs:(Tryz.prog.info? 28).isSome=true:=by kernel_rfl
 obtain ⟨i,hi⟩:=Option.isSome_iff_exists.1 hs
 rw [run_eql_struct,show (10000:Nat)=9999+1 from rfl,run_equalIn_array w 9999 _ _ Tryz.underlying29 hi,hU]
 simp only [List.range,List.range.loop,Op.eqItems]
 go_simp
theorem Bu.eq_mail (x y:Int) (w:World):(binOp .eql 39 (.agg #[.int .u8 x,.int .u8 y]) (.agg #[.int .u8 x,.int .u8 y])).run Tryz.prog w = .ok (.bool true) w:=by
 have u3:=Tryz.underlying5
 have a3:=Tryz.isAgg5
 have z3:=Tryz.sizeOf5
 have hU:Tryz.prog.cellsOf 5=1:=by kernel_rfl
 have hs:(Tryz.prog.info? 5).isSome=true:=by kernel_rfl
 obtain ⟨i,hi⟩:=Option.isSome_iff_exists.1 hs
 rw [run_eql_struct,show (10000:Nat)=9999+1 from rfl,run_equalIn_array w 9999 _ _ Tryz.underlying39 hi,hU]
 simp only [List.range,List.range.loop,Op.eqItems]
 go_simp
theorem Bu.loadG {P:Program} {ops:Array Oper} {rest:List Oper} {op:Oper} {a:Act} {w:World} {Q:Exit->Act->World->Prop} (hw:Region.wanted op (yielded ops a.tmps)=true) (ty:TypeId) (x:Operand) (ho:op.op = .load ty x)
 (b o:Nat) (hx:a.eval x = .pointer (some ⟨b,o,none⟩)) (cs:List Value) (d:TypeDesc) (hc:w.rangeAt b o cs)
 (hu:P.underlying ty=some d) (hd:d.isRow=true) (hi:(P.info? ty).map (·.size)=some cs.length)
 (h:wpList P ops Q rest (a.put op.dst (.agg cs.toArray)) w):wpList P ops Q (op :: rest) a w :=
 wpList_step fun K hK=>by rw [if_pos hw];exact wp_load_mid ty x ho b o hx cs d hc hu hd hi (hK _ _ h)
def five2 (S1 S2:Sl):List Value:=[S1.mr,S2.mr,S1.ar,S2.ar,S1.ra,S2.ra,S1.ow,S2.ow,S1.vi,S2.vi]
theorem five2_at (S1 S2:Sl) (k:Nat) (hk:k < 5):(five2 S1 S2)[k * 2]? = some (S1.get k)/\(five2 S1 S2)[k * 2+1]? = some (S2.get k):=by
 rcases five hk with rfl | rfl | rfl | rfl | rfl <;> exact ⟨rfl,rfl⟩
structure SM (w : World) (M : Mach) (S1 S2 : Sl) (Y : World) : Prop where
 low:Below w.heap.size w Y
 a:Bx Y w.heap.size (machL M S1)
 b:Bx Y (w.heap.size+1) (machL M S2)
 l:Bx Y (w.heap.size+2) (five2 S1 S2)
theorem SM.kept {w Y Y':World} {M:Mach} {S1 S2:Sl} (h:SM w M S1 S2 Y) (hb:Below Y.heap.size Y Y'):SM w M S1 S2 Y':=⟨stp h.low hb,h.a.kept hb,h.b.kept hb,h.l.kept hb⟩
theorem Bx.mainR {Y:World} {b:Nat} {M:Mach} {S:Sl} (h:Bx Y b (machL M S)):Y.rangeAt b 0 (cpuL M.main):=fun i v hi=>by
 refine h.at (0+i) v ?_
 rw [Nat.zero_add]
 unfold machL
 rw [List.getElem?_append_left (List.getElem?_eq_some_iff.1 hi).1]
 exact hi
theorem Bx.auxR {Y:World} {b:Nat} {M:Mach} {S:Sl} (h:Bx Y b (machL M S)):Y.rangeAt b 15 (cpuL M.aux):=fun i v hi=>by
 refine h.at (15+i) v ?_
 unfold machL
 have hl:(cpuL M.main).length=15:=rfl
 rw [List.getElem?_append_right (by omega),hl,show 15+i - 15=i by omega,List.getElem?_append_left (List.getElem?_eq_some_iff.1 hi).1]
 exact hi
theorem Bx.scl {Y:World} {b:Nat} {M:Mach} {S:Sl} (h:Bx Y b (machL M S)):Y.cell? ⟨b,35,none⟩=some (.int .u8 M.p0.d)/\Y.cell? ⟨b,36,none⟩=some (.bool M.p0.l)/\Y.cell? ⟨b,37,none⟩=some (.int .u8 M.p0.s)/\Y.cell? ⟨b,38,none⟩=some (.int .u8 M.p1.d)/\Y.cell? ⟨b,39,none⟩=some (.bool M.p1.l)/\Y.cell? ⟨b,40,none⟩=some (.int .u8 M.p1.s)/\Y.cell? ⟨b,41,none⟩=some (.int .u16 M.t.r)/\Y.cell? ⟨b,42,none⟩=some (.int .u16 M.t.c)/\Y.cell? ⟨b,43,none⟩=some (.bool M.t.on)/\Y.cell? ⟨b,44,none⟩=some (.bool M.t.g)/\Y.cell? ⟨b,61,none⟩=some (.int .i64 M.b.l)/\Y.cell? ⟨b,62,none⟩=some (.int .i64 M.b.a)/\Y.cell? ⟨b,63,none⟩=some (.bool M.b.g)/\Y.cell? ⟨b,64,none⟩=some (.int .i64 M.b.f)/\Y.cell? ⟨b,65,none⟩=some (.int .u16 M.fr)/\Y.cell? ⟨b,66,none⟩=some (.int .u16 M.to)/\Y.cell? ⟨b,67,none⟩=some (.bool M.granted)/\Y.cell? ⟨b,68,none⟩=some (.bool M.held)/\Y.cell? ⟨b,69,none⟩=some (.int .u8 M.m0)/\Y.cell? ⟨b,70,none⟩=some (.int .u8 M.m1)/\Y.cell? ⟨b,71,none⟩=some (.bool M.rung)/\Y.cell? ⟨b,72,none⟩=some (.int .i64 M.clock)/\Y.cell? ⟨b,73,none⟩=some (.int .i64 M.mready)/\Y.cell? ⟨b,74,none⟩=some (.int .i64 M.aready) :=
 ⟨h.at 35 _ rfl,h.at 36 _ rfl,h.at 37 _ rfl,h.at 38 _ rfl,h.at 39 _ rfl,h.at 40 _ rfl,h.at 41 _ rfl,h.at 42 _ rfl,h.at 43 _ rfl,h.at 44 _ rfl,h.at 61 _ rfl,h.at 62 _ rfl,h.at 63 _ rfl,h.at 64 _ rfl,h.at 65 _ rfl,h.at 66 _ rfl,h.at 67 _ rfl,h.at 68 _ rfl,h.at 69 _ rfl,h.at 70 _ rfl,h.at 71 _ rfl,h.at 72 _ rfl,h.at 73 _ rfl,h.at 74 _ rfl⟩
theorem SM.start (w:World) (M:Mach) (S1 S2:Sl) (o1 o2 o3:TypeId):SM w M S1 S2 (((w.alloc (.cells (machL M S1).toArray o1)).alloc (.cells (machL M S2).toArray o2)).alloc (.cells (five2 S1 S2).toArray o3)) :=
 ⟨stA (stA (stA (st0 w) _) _) _,((Bx.new w (machL M S1) o1 rfl).over _).over _,(Bx.new (w.alloc _) (machL M S2) o2 (by simp)).over _,Bx.new _ (five2 S1 S2) o3 (by simp)⟩
theorem Bu.same_any (M:Mach) (S1 S2:Sl) (w:World) (h1:SlAt w S1 M) (h2:SlAt w S2 M) :
 Calls Tryz.prog 14 #[.agg (machL M S1).toArray,.agg (machL M S2).toArray] w fun e w'=>e = .returned (.bool true)/\Below w.heap.size w w':=by
 have hA:=(Bx.new w (machL M S1) 41 (b:=w.heap.size) rfl).over (.cells (machL M S2).toArray 41)
 have hB:=Bx.new (w.alloc (.cells (machL M S1).toArray 41)) (machL M S2) 41 (b:=w.heap.size+1) (by simp)
 obtain ⟨a0,c0,e0⟩:=h1.lens 0 (by omega)
 obtain ⟨a1,c1,e1⟩:=h1.lens 1 (by omega)
 obtain ⟨a2,c2,e2⟩:=h1.lens 2 (by omega)
 obtain ⟨a3,c3,e3⟩:=h1.lens 3 (by omega)
 obtain ⟨a4,c4,e4⟩:=h1.lens 4 (by omega)
 obtain ⟨b0,d0,f0⟩:=h2.lens 0 (by omega)
 obtain ⟨b1,d1,f1⟩:=h2.lens 1 (by omega)
 obtain ⟨b2,d2,f2⟩:=h2.lens 2 (by omega)
 obtain ⟨b3,d3,f3⟩:=h2.lens 3 (by omega)
 obtain ⟨b4,d4,f4⟩:=h2.lens 4 (by omega)
 obtain ⟨x0,x1,x2,x3,x4⟩:=mcells5 hA e0 e1 e2 e3 e4
 obtain ⟨y0,y1,y2,y3,y4⟩:=mcells5 hB f0 f1 f2 f3 f4
 have hz:=hA.z
 have hz1:=hB.z
 have HE:Hid (five2 S1 S2=[.slice a0 M.mrom.length c0,.slice b0 M.mrom.length d0,.slice a1 M.arom.length c1,.slice b1 M.arom.length d1,.slice a2 M.ram.length c2,.slice b2 M.ram.length d2,.slice a3 M.own.length c3,.slice b3 M.own.length d3,.slice a4 M.video.length c4,.slice b4 M.video.length d4]):=hid (by
  unfold five2
  have e0':S1.mr=_:=e0
  have e1':S1.ar=_:=e1
  have e2':S1.ra=_:=e2
  have e3':S1.ow=_:=e3
  have e4':S1.vi=_:=e4
  have f0':S2.mr=_:=f0
  have f1':S2.ar=_:=f1
  have f2':S2.ra=_:=f2
  have f3':S2.ow=_:=f3
  have f4':S2.vi=_:=f4
  rw [e0',e1',e2',e3',e4',f0',f1',f2',f3',f4']
  rfl)
 have H1:=hid h1
 have H2:=hid h2
 clear hA hB e0 e1 e2 e3 e4 f0 f1 f2 f3 f4 h1 h2
 go_enter Tryz.func14,Tryz.ntmps14
 go_wp2
 refine Pl.cutW (SM w M S1 S2) (by have hs:=SM.start w M S1 S2 41 41 99;rw [HE.out] at hs;exact hs) ?_
 intro Y hY
 have HY:=hid hY
 clear hY
 go_loopw [34] (fun i wr=>∃ k:Nat,k<=5/\i = .int .i64 k/\SM w M S1 S2 wr) (fun i _=>5 - (intOf i).toNat)
 case atStart=>exact ⟨0,by omega,rfl,HY.out⟩
 case round =>
  clear HY x0 x1 x2 x3 x4 y0 y1 y2 y3 y4 hz hz1
  obtain ⟨k,hk,rfl,hS⟩:=hrel
  by_cases hlt:k < 5
  ·have hlt2:(k:Int) < 5:=by omega
   obtain ⟨l1,l2⟩:=five2_at S1 S2 k hlt
   obtain ⟨u1,v1,g1⟩:=H1.out.lens k hlt
   obtain ⟨u2,v2,g2⟩:=H2.out.lens k hlt
   have m1:=hS.l.at _ _ l1
   have m2:=hS.l.at _ _ l2
   rw [g1] at m1
   rw [g2] at m2
   have K1:=H1.out k hlt
   have K2:=H2.out k hlt
   rw [g1] at K1
   rw [g2] at K2
   have HK1:=hid (K1.kept hS.low)
   have HK2:=hid (K2.kept hS.low)
   have hz:=hS.l.z
   have HS:=hid hS
   clear hS l1 l2 g1 g2 K1 K2 HE
   go_wp2_with (go_at_call 32;refine (equal_any _ _ (M.byt k) (M.byt k) _ (HK1.out.kept (stA (st0 _) _)) (HK2.out.kept (stA (st0 _) _))).mono ?_;rw [beq_self_eq_true];rintro e w1 ⟨rfl,rfl⟩)
   go_roundw
   case rel=>exact ⟨k+1,by omega,by go_num,HS.out.kept (stA (st0 _) _)⟩
   case measure=>simp [intOf];omega
  ·obtain rfl:k=5:=by omega
   have q1:=Bu.eq_cpuL M.main
   have q2:=Bu.eq_cpuL M.aux
   have q3:=Bu.eq_pads M.p0.d M.p0.s M.p1.d M.p1.s M.p0.l M.p1.l
   have q4:=Bu.eq_timer M.t.r M.t.c M.t.on M.t.g
   have q5:=Bu.eq_sndL M.s
   have q6:=Bu.eq_beam M.b.l M.b.a M.b.f M.b.g
   have q7:=Bu.eq_mail M.m0 M.m1
   obtain ⟨p35,p36,p37,p38,p39,p40,p41,p42,p43,p44,p61,p62,p63,p64,p65,p66,p67,p68,p69,p70,p71,p72,p73,p74⟩:=hS.a.scl
   obtain ⟨r35,r36,r37,r38,r39,r40,r41,r42,r43,r44,r61,r62,r63,r64,r65,r66,r67,r68,r69,r70,r71,r72,r73,r74⟩:=hS.b.scl
   have hz:=hS.a.z
   have hz1:=hS.b.z
   have HS:=hid hS
   clear hS HE
   go_upto_region 7 with fail
   simp only [List.append]
   go_wp2_with (first
    | (refine wpList_load_mid rfl 25 _ rfl w.heap.size 0 rfl (cpuL M.main) _ HS.out.a.mainR Tryz.underlying25 rfl info_cpu ?_)
    | (refine wpList_load_mid rfl 25 _ rfl (w.heap.size+1) 0 rfl (cpuL M.main) _ HS.out.b.mainR Tryz.underlying25 rfl info_cpu ?_)
    | (refine Bu.loadG rfl 25 _ rfl w.heap.size 15 rfl (cpuL M.aux) _ HS.out.a.auxR Tryz.underlying25 rfl info_cpu ?_)
    | (refine Bu.loadG rfl 25 _ rfl (w.heap.size+1) 15 rfl (cpuL M.aux) _ HS.out.b.auxR Tryz.underlying25 rfl info_cpu ?_)
    | (refine Bu.loadG rfl 36 _ rfl w.heap.size 45 rfl (sndL M.s) _ HS.out.a.sndR Tryz.underlying36 rfl info_sound ?_)
    | (refine Bu.loadG rfl 36 _ rfl (w.heap.size+1) 45 rfl (sndL M.s) _ HS.out.b.sndR Tryz.underlying36 rfl info_sound ?_))
   go_ret
   exact ⟨rfl,HS.out.low⟩
abbrev nil3:List Value:=[.slice none 0 0,.slice none 0 0,.slice none 0 0]
structure R3 (w1 : World) (X : Mach) (S' : Sl) (L : List Value) (Y : World) : Prop where
 old:Below w1.heap.size w1 Y
 x:Bx Y w1.heap.size (machL X S')
 s:Bx Y (w1.heap.size+1) L
section
variable {w1 Y Y' : World} {X : Mach} {S' : Sl} {L : List Value}
theorem R3.mk1 (w1:World) (X:Mach) (S':Sl):R3 w1 X S' nil3 (((w1.alloc (.cells (machL zeroM nilS).toArray 41)).alloc (.cells #[.slice none 0 0,.slice none 0 0,.slice none 0 0] 50)).setCells w1.heap.size 0 (machL X S')):=by
 have h1:=((Bx.new w1 (machL zeroM nilS) 41 (b:=w1.heap.size) rfl).over (.cells #[.slice none 0 0,.slice none 0 0,.slice none 0 0] 50)).puts 0 (machL X S') (by rw [machL_len,machL_len];omega)
 rw [putL_whole _ _ (by rw [machL_len,machL_len])] at h1
 exact ⟨below_sets' (stA (stA (st0 w1) _) _) (Nat.le_refl _) _ _,h1,DW.bb (Bx.new (w1.alloc (.cells (machL zeroM nilS).toArray 41)) nil3 50 (b:=w1.heap.size+1) (by simp)) (by omega)⟩
theorem R3.put {x y z x' y' z':Value} (h:R3 w1 X S' [x,y,z] Y):R3 w1 X S' [x',y',z'] (Y.setCells (w1.heap.size+1) 0 [x',y',z']):=by
 have h1:=h.s.puts 0 [x',y',z'] (by simp)
 rw [putL_whole _ _ (by simp)] at h1
 exact ⟨below_sets' h.old (by omega) _ _,DW.bb h.x (by omega),h1⟩
theorem R3.kept (h:R3 w1 X S' L Y) (hb:Below Y.heap.size Y Y'):R3 w1 X S' L Y':=⟨stp h.old hb,h.x.kept hb,h.s.kept hb⟩
end
theorem R3.th1 (w1:World):((w1.alloc (.cells (machL zeroM nilS).toArray 41)).alloc (.cells #[.slice none 0 0,.slice none 0 0,.slice none 0 0] 50)).there w1.heap.size 0 75:=((Bx.new w1 (machL zeroM nilS) 41 (b:=w1.heap.size) rfl).over _).there 0 75 (by rw [machL_len];omega)
theorem one3 (a1 a2 a3:Option Addr) (n1 n2 n3 c1 c2 c3:Nat):(#[.slice a1 n1 c1,.slice a2 n2 c2,.slice a3 n3 c3]:Array Value).all (·.oneCell')=true:=by simp [Value.oneCell']
theorem Lk.long_any (M:Mach) (S:Sl) (n:Int) (w:World):Calls Tryz.prog 9 #[.agg (machL M S).toArray,.int .i64 n] w fun e w'=>e = .returned (.bool (decide (19000 < M.b.f)))/\Below w.heap.size w w':=by
 have hB:=Bx.new w (machL M S) 41 (b:=w.heap.size) rfl
 have x64:=hB.at 64 (.int .i64 M.b.f) rfl
 clear hB
 go_enter Tryz.func9,Tryz.ntmps9
 go_wp2
 go_ret
 exact ⟨rfl,stA (st0 w) _⟩
structure CkW (w : World) (u0 u1 u2 u3 u4 : Option Addr) (n0 n1 n2 n3 n4 c0 c1 c2 c3 c4 : Nat) (x l a f k m q : Int) (g : Bool) (Y : World) : Prop where
 low:Below w.heap.size w Y
 z:w.heap.size < Y.heap.size
 r0:Y.cell? ⟨w.heap.size,30,none⟩=some (.slice u0 n0 c0)
 r1:Y.cell? ⟨w.heap.size,31,none⟩=some (.slice u1 n1 c1)
 r2:Y.cell? ⟨w.heap.size,32,none⟩=some (.slice u2 n2 c2)
 r3:Y.cell? ⟨w.heap.size,33,none⟩=some (.slice u3 n3 c3)
 r4:Y.cell? ⟨w.heap.size,34,none⟩=some (.slice u4 n4 c4)
 s:Y.cell? ⟨w.heap.size,60,none⟩=some (.int .i64 x)
 b0:Y.cell? ⟨w.heap.size,61,none⟩=some (.int .i64 l)
 b1:Y.cell? ⟨w.heap.size,62,none⟩=some (.int .i64 a)
 b2:Y.cell? ⟨w.heap.size,63,none⟩=some (.bool g)
 b3:Y.cell? ⟨w.heap.size,64,none⟩=some (.int .i64 f)
 k:Y.cell? ⟨w.heap.size,72,none⟩=some (.int .i64 k)
 m:Y.cell? ⟨w.heap.size,73,none⟩=some (.int .i64 m)
 q:Y.cell? ⟨w.heap.size,74,none⟩=some (.int .i64 q)
theorem CkW.mk0 (M:Mach) (S:Sl) (w:World) (t:TypeId) {u0 u1 u2 u3 u4:Option Addr} {c0 c1 c2 c3 c4:Nat} (e0:S.get 0 = .slice u0 M.mrom.length c0) (e1:S.get 1 = .slice u1 M.arom.length c1) (e2:S.get 2 = .slice u2 M.ram.length c2) (e3:S.get 3 = .slice u3 M.own.length c3) (e4:S.get 4 = .slice u4 M.video.length c4) :
 CkW w u0 u1 u2 u3 u4 M.mrom.length M.arom.length M.ram.length M.own.length M.video.length c0 c1 c2 c3 c4 M.s.w M.b.l M.b.a M.b.f M.clock M.mready M.aready M.b.g (w.alloc (.cells (machL M S).toArray t)):=by
 have h:=Bx.new w (machL M S) t (b:=w.heap.size) rfl
 exact ⟨stA (st0 w) _,h.z,(h.at 30 (S.get 0) rfl).trans (by rw [e0]),(h.at 31 (S.get 1) rfl).trans (by rw [e1]),(h.at 32 (S.get 2) rfl).trans (by rw [e2]),(h.at 33 (S.get 3) rfl).trans (by rw [e3]),(h.at 34 (S.get 4) rfl).trans (by rw [e4]),h.at 60 _ rfl,h.at 61 _ rfl,h.at 62 _ rfl,h.at 63 _ rfl,h.at 64 _ rfl,h.at 72 _ rfl,h.at 73 _ rfl,h.at 74 _ rfl⟩
section
variable {w : World} {u0 u1 u2 u3 u4 : Option Addr} {n0 n1 n2 n3 n4 c0 c1 c2 c3 c4 : Nat} {x l a f k m q : Int} {g : Bool}
def CkT (w:World) (u0 u1 u2 u3 u4:Option Addr) (n0 n1 n2 n3 n4 c0 c1 c2 c3 c4:Nat) (x l a f k m q:Int) (g:Bool) (v:Int):Prop :=
 ∀ (M:Mach) (S:Sl),CkW w u0 u1 u2 u3 u4 n0 n1 n2 n3 n4 c0 c1 c2 c3 c4 x l a f k m q g (w.alloc (.cells (machL M S).toArray 41)) ->
  Calls Tryz.prog 23 #[.agg (machL M S).toArray] w fun e w'=>e = .returned (.int .i64 v)/\Below w.heap.size w w'
theorem Gm.ck_many (h0:1024 < max (n0:Int) n1):CkT w u0 u1 u2 u3 u4 n0 n1 n2 n3 n4 c0 c1 c2 c3 c4 x l a f k m q g 2:=by
 intro M S hC
 have HC:=hid hC
 clear hC
 go_enter Tryz.func23,Tryz.ntmps23
 go_upto_region 1 with fail
 refine Pl.cutW (CkW w u0 u1 u2 u3 u4 n0 n1 n2 n3 n4 c0 c1 c2 c3 c4 x l a f k m q g) HC.out ?_
 intro Y hY
 obtain ⟨hlow,z,r0,r1,r2,r3,r4,s,b0,b1,b2,b3,hk,hm,hq⟩:=hY
 have HL:=hid hlow
 clear hlow HC
 go_wp2
 all_goals
  go_ret
  exact ⟨rfl,HL.out⟩
theorem Gm.ck_ram (m0:(n0:Int)<=1024) (m1:(n1:Int)<=1024) (h1:((n2:Int) == 128)=false):CkT w u0 u1 u2 u3 u4 n0 n1 n2 n3 n4 c0 c1 c2 c3 c4 x l a f k m q g 4:=by
 intro M S hC
 have hmx:max (n0:Int) n1<=1024:=by omega
 have HC:=hid hC
 clear hC
 go_enter Tryz.func23,Tryz.ntmps23
 go_upto_region 1 with fail
 refine Pl.cutW (CkW w u0 u1 u2 u3 u4 n0 n1 n2 n3 n4 c0 c1 c2 c3 c4 x l a f k m q g) HC.out ?_
 intro Y hY
 obtain ⟨hlow,z,r0,r1,r2,r3,r4,s,b0,b1,b2,b3,hk,hm,hq⟩:=hY
 have HL:=hid hlow
 clear hlow HC
 go_wp2
 all_goals
  go_ret
  exact ⟨rfl,HL.out⟩
theorem Gm.ck_own (m0:(n0:Int)<=1024) (m1:(n1:Int)<=1024) (h1:n2=128) (h2:((n3:Int) == 64)=false):CkT w u0 u1 u2 u3 u4 n0 n1 n2 n3 n4 c0 c1 c2 c3 c4 x l a f k m q g 4:=by
 intro M S hC
 have hmx:max (n0:Int) n1<=1024:=by omega
 have j1:((n2:Int) == 128)=true:=by simp [h1]
 clear h1
 have HC:=hid hC
 clear hC
 go_enter Tryz.func23,Tryz.ntmps23
 go_upto_region 1 with fail
 refine Pl.cutW (CkW w u0 u1 u2 u3 u4 n0 n1 n2 n3 n4 c0 c1 c2 c3 c4 x l a f k m q g) HC.out ?_
 intro Y hY
 obtain ⟨hlow,z,r0,r1,r2,r3,r4,s,b0,b1,b2,b3,hk,hm,hq⟩:=hY
 have HL:=hid hlow
 clear hlow HC
 go_wp2
 all_goals
  go_ret
  exact ⟨rfl,HL.out⟩
theorem Gm.ck_video (m0:(n0:Int)<=1024) (m1:(n1:Int)<=1024) (h1:n2=128) (h2:n3=64) (h3:((n4:Int) == 256)=false):CkT w u0 u1 u2 u3 u4 n0 n1 n2 n3 n4 c0 c1 c2 c3 c4 x l a f k m q g 4:=by
 intro M S hC
 have hmx:max (n0:Int) n1<=1024:=by omega
 have j1:((n2:Int) == 128)=true:=by simp [h1]
 clear h1
 have j2:((n3:Int) == 64)=true:=by simp [h2]
 clear h2
 have HC:=hid hC
 clear hC
 go_enter Tryz.func23,Tryz.ntmps23
 go_upto_region 1 with fail
 refine Pl.cutW (CkW w u0 u1 u2 u3 u4 n0 n1 n2 n3 n4 c0 c1 c2 c3 c4 x l a f k m q g) HC.out ?_
 intro Y hY
 obtain ⟨hlow,z,r0,r1,r2,r3,r4,s,b0,b1,b2,b3,hk,hm,hq⟩:=hY
 have HL:=hid hlow
 clear hlow HC
 go_wp2
 all_goals
  go_ret
  exact ⟨rfl,HL.out⟩
theorem Gm.ck_w0 (m0:(n0:Int)<=1024) (m1:(n1:Int)<=1024) (ew0:x < 0):CkT w u0 u1 u2 u3 u4 n0 n1 128 64 256 c0 c1 c2 c3 c4 x l a f k m q g 3:=by
 intro M S hC
 have hmx:max (n0:Int) n1<=1024:=by omega
 have HC:=hid hC
 clear hC
 go_enter Tryz.func23,Tryz.ntmps23
 go_upto_region 1 with fail
 refine Pl.cutW (CkW w u0 u1 u2 u3 u4 n0 n1 128 64 256 c0 c1 c2 c3 c4 x l a f k m q g) HC.out ?_
 intro Y hY
 obtain ⟨hlow,z,r0,r1,r2,r3,r4,s,b0,b1,b2,b3,hk,hm,hq⟩:=hY
 have HL:=hid hlow
 clear hlow HC
 go_wp2
 all_goals
  go_ret
  exact ⟨rfl,stA HL.out _⟩
theorem Gm.ck_w1 (m0:(n0:Int)<=1024) (m1:(n1:Int)<=1024) (ew0:0<=x) (ew1:15 < x):CkT w u0 u1 u2 u3 u4 n0 n1 128 64 256 c0 c1 c2 c3 c4 x l a f k m q g 3:=by
 intro M S hC
 have hmx:max (n0:Int) n1<=1024:=by omega
 have HC:=hid hC
 clear hC
 go_enter Tryz.func23,Tryz.ntmps23
 go_upto_region 1 with fail
 refine Pl.cutW (CkW w u0 u1 u2 u3 u4 n0 n1 128 64 256 c0 c1 c2 c3 c4 x l a f k m q g) HC.out ?_
 intro Y hY
 obtain ⟨hlow,z,r0,r1,r2,r3,r4,s,b0,b1,b2,b3,hk,hm,hq⟩:=hY
 have HL:=hid hlow
 clear hlow HC
 go_wp2
 all_goals
  go_ret
  exact ⟨rfl,stA HL.out _⟩
theorem Gm.ck_l0 (m0:(n0:Int)<=1024) (m1:(n1:Int)<=1024) (ew0:0<=x) (ew1:x<=15) (el0:l < 0):CkT w u0 u1 u2 u3 u4 n0 n1 128 64 256 c0 c1 c2 c3 c4 x l a f k m q g 3:=by
 intro M S hC
 have hmx:max (n0:Int) n1<=1024:=by omega
 have HC:=hid hC
 clear hC
 go_enter Tryz.func23,Tryz.ntmps23
 go_upto_region 1 with fail
 refine Pl.cutW (CkW w u0 u1 u2 u3 u4 n0 n1 128 64 256 c0 c1 c2 c3 c4 x l a f k m q g) HC.out ?_
 intro Y hY
 obtain ⟨hlow,z,r0,r1,r2,r3,r4,s,b0,b1,b2,b3,hk,hm,hq⟩:=hY
 have HL:=hid hlow
 clear hlow HC
 go_wp2
 all_goals
  go_ret
  exact ⟨rfl,stA HL.out _⟩
theorem Gm.ck_l1 (m0:(n0:Int)<=1024) (m1:(n1:Int)<=1024) (ew0:0<=x) (ew1:x<=15) (el0:0<=l) (el1:9 < l):CkT w u0 u1 u2 u3 u4 n0 n1 128 64 256 c0 c1 c2 c3 c4 x l a f k m q g 3:=by
 intro M S hC
 have hmx:max (n0:Int) n1<=1024:=by omega
 have HC:=hid hC
 clear hC
 go_enter Tryz.func23,Tryz.ntmps23
 go_upto_region 1 with fail
 refine Pl.cutW (CkW w u0 u1 u2 u3 u4 n0 n1 128 64 256 c0 c1 c2 c3 c4 x l a f k m q g) HC.out ?_
 intro Y hY
 obtain ⟨hlow,z,r0,r1,r2,r3,r4,s,b0,b1,b2,b3,hk,hm,hq⟩:=hY
 have HL:=hid hlow
 clear hlow HC
 go_wp2
 all_goals
  go_ret
  exact ⟨rfl,stA HL.out _⟩
theorem Gm.ck_a0 (m0:(n0:Int)<=1024) (m1:(n1:Int)<=1024) (ew0:0<=x) (ew1:x<=15) (el0:0<=l) (el1:l<=9) (ea0:a < 0):CkT w u0 u1 u2 u3 u4 n0 n1 128 64 256 c0 c1 c2 c3 c4 x l a f k m q g 3:=by
 intro M S hC
 have hmx:max (n0:Int) n1<=1024:=by omega
 have HC:=hid hC
 clear hC
 go_enter Tryz.func23,Tryz.ntmps23
 go_upto_region 1 with fail
 refine Pl.cutW (CkW w u0 u1 u2 u3 u4 n0 n1 128 64 256 c0 c1 c2 c3 c4 x l a f k m q g) HC.out ?_
 intro Y hY
 obtain ⟨hlow,z,r0,r1,r2,r3,r4,s,b0,b1,b2,b3,hk,hm,hq⟩:=hY
 have HL:=hid hlow
 clear hlow HC
 go_wp2
 all_goals
  go_ret
  exact ⟨rfl,stA HL.out _⟩
theorem Gm.ck_a1 (m0:(n0:Int)<=1024) (m1:(n1:Int)<=1024) (ew0:0<=x) (ew1:x<=15) (el0:0<=l) (el1:l<=9) (ea0:0<=a) (ea1:63 < a):CkT w u0 u1 u2 u3 u4 n0 n1 128 64 256 c0 c1 c2 c3 c4 x l a f k m q g 3:=by
 intro M S hC
 have hmx:max (n0:Int) n1<=1024:=by omega
 have HC:=hid hC
 clear hC
 go_enter Tryz.func23,Tryz.ntmps23
 go_upto_region 1 with fail
 refine Pl.cutW (CkW w u0 u1 u2 u3 u4 n0 n1 128 64 256 c0 c1 c2 c3 c4 x l a f k m q g) HC.out ?_
 intro Y hY
 obtain ⟨hlow,z,r0,r1,r2,r3,r4,s,b0,b1,b2,b3,hk,hm,hq⟩:=hY
 have HL:=hid hlow
 clear hlow HC
 go_wp2
 all_goals
  go_ret
  exact ⟨rfl,stA HL.out _⟩
theorem Gm.ck_f0 (m0:(n0:Int)<=1024) (m1:(n1:Int)<=1024) (ew0:0<=x) (ew1:x<=15) (el0:0<=l) (el1:l<=9) (ea0:0<=a) (ea1:a<=63) (ef0:f < 0):CkT w u0 u1 u2 u3 u4 n0 n1 128 64 256 c0 c1 c2 c3 c4 x l a f k m q g 3:=by
 intro M S hC
 have hmx:max (n0:Int) n1<=1024:=by omega
 have HC:=hid hC
 clear hC
 go_enter Tryz.func23,Tryz.ntmps23
 go_upto_region 1 with fail
 refine Pl.cutW (CkW w u0 u1 u2 u3 u4 n0 n1 128 64 256 c0 c1 c2 c3 c4 x l a f k m q g) HC.out ?_
 intro Y hY
 obtain ⟨hlow,z,r0,r1,r2,r3,r4,s,b0,b1,b2,b3,hk,hm,hq⟩:=hY
 have HL:=hid hlow
 clear hlow HC
 go_wp2
 all_goals
  go_ret
  exact ⟨rfl,stA HL.out _⟩
theorem Gm.ck_f1 (m0:(n0:Int)<=1024) (m1:(n1:Int)<=1024) (ew0:0<=x) (ew1:x<=15) (el0:0<=l) (el1:l<=9) (ea0:0<=a) (ea1:a<=63) (ef0:0<=f) (ef1:20000 < f):CkT w u0 u1 u2 u3 u4 n0 n1 128 64 256 c0 c1 c2 c3 c4 x l a f k m q g 3:=by
 intro M S hC
 have hmx:max (n0:Int) n1<=1024:=by omega
 have HC:=hid hC
 clear hC
 go_enter Tryz.func23,Tryz.ntmps23
 go_upto_region 1 with fail
 refine Pl.cutW (CkW w u0 u1 u2 u3 u4 n0 n1 128 64 256 c0 c1 c2 c3 c4 x l a f k m q g) HC.out ?_
 intro Y hY
 obtain ⟨hlow,z,r0,r1,r2,r3,r4,s,b0,b1,b2,b3,hk,hm,hq⟩:=hY
 have HL:=hid hlow
 clear hlow HC
 go_wp2
 all_goals
  go_ret
  exact ⟨rfl,stA HL.out _⟩
theorem Gm.ck_k0 (m0:(n0:Int)<=1024) (m1:(n1:Int)<=1024) (ew0:0<=x) (ew1:x<=15) (el0:0<=l) (el1:l<=9) (ea0:0<=a) (ea1:a<=63) (ef0:0<=f) (ef1:f<=20000) (ek0:k < 0):CkT w u0 u1 u2 u3 u4 n0 n1 128 64 256 c0 c1 c2 c3 c4 x l a f k m q g 3:=by
 intro M S hC
 have hmx:max (n0:Int) n1<=1024:=by omega
 have HC:=hid hC
 clear hC
 go_enter Tryz.func23,Tryz.ntmps23
 go_upto_region 1 with fail
 refine Pl.cutW (CkW w u0 u1 u2 u3 u4 n0 n1 128 64 256 c0 c1 c2 c3 c4 x l a f k m q g) HC.out ?_
 intro Y hY
 obtain ⟨hlow,z,r0,r1,r2,r3,r4,s,b0,b1,b2,b3,hk,hm,hq⟩:=hY
 have HL:=hid hlow
 clear hlow HC
 go_wp2
 all_goals
  go_ret
  exact ⟨rfl,stA HL.out _⟩
theorem Gm.ck_k1 (m0:(n0:Int)<=1024) (m1:(n1:Int)<=1024) (ew0:0<=x) (ew1:x<=15) (el0:0<=l) (el1:l<=9) (ea0:0<=a) (ea1:a<=63) (ef0:0<=f) (ef1:f<=20000) (ek0:0<=k) (ek1:200000 < k):CkT w u0 u1 u2 u3 u4 n0 n1 128 64 256 c0 c1 c2 c3 c4 x l a f k m q g 3:=by
 intro M S hC
 have hmx:max (n0:Int) n1<=1024:=by omega
 have HC:=hid hC
 clear hC
 go_enter Tryz.func23,Tryz.ntmps23
 go_upto_region 1 with fail
 refine Pl.cutW (CkW w u0 u1 u2 u3 u4 n0 n1 128 64 256 c0 c1 c2 c3 c4 x l a f k m q g) HC.out ?_
 intro Y hY
 obtain ⟨hlow,z,r0,r1,r2,r3,r4,s,b0,b1,b2,b3,hk,hm,hq⟩:=hY
 have HL:=hid hlow
 clear hlow HC
 go_wp2
 all_goals
  go_ret
  exact ⟨rfl,stA HL.out _⟩
theorem Gm.ck_p0 (m0:(n0:Int)<=1024) (m1:(n1:Int)<=1024) (ew0:0<=x) (ew1:x<=15) (el0:0<=l) (el1:l<=9) (ea0:0<=a) (ea1:a<=63) (ef0:0<=f) (ef1:f<=20000) (ek0:0<=k) (ek1:k<=200000) (ep0:m < 0):CkT w u0 u1 u2 u3 u4 n0 n1 128 64 256 c0 c1 c2 c3 c4 x l a f k m q g 3:=by
 intro M S hC
 have hmx:max (n0:Int) n1<=1024:=by omega
 have HC:=hid hC
 clear hC
 go_enter Tryz.func23,Tryz.ntmps23
 go_upto_region 1 with fail
 refine Pl.cutW (CkW w u0 u1 u2 u3 u4 n0 n1 128 64 256 c0 c1 c2 c3 c4 x l a f k m q g) HC.out ?_
 intro Y hY
 obtain ⟨hlow,z,r0,r1,r2,r3,r4,s,b0,b1,b2,b3,hk,hm,hq⟩:=hY
 have HL:=hid hlow
 clear hlow HC
 go_wp2
 all_goals
  go_ret
  exact ⟨rfl,stA HL.out _⟩
theorem Gm.ck_p1 (m0:(n0:Int)<=1024) (m1:(n1:Int)<=1024) (ew0:0<=x) (ew1:x<=15) (el0:0<=l) (el1:l<=9) (ea0:0<=a) (ea1:a<=63) (ef0:0<=f) (ef1:f<=20000) (ek0:0<=k) (ek1:k<=200000) (ep0:0<=m) (ep1:k+20000 < m):CkT w u0 u1 u2 u3 u4 n0 n1 128 64 256 c0 c1 c2 c3 c4 x l a f k m q g 3:=by
 intro M S hC
 have hmx:max (n0:Int) n1<=1024:=by omega
 have HC:=hid hC
 clear hC
 go_enter Tryz.func23,Tryz.ntmps23
 go_upto_region 1 with fail
 refine Pl.cutW (CkW w u0 u1 u2 u3 u4 n0 n1 128 64 256 c0 c1 c2 c3 c4 x l a f k m q g) HC.out ?_
 intro Y hY
 obtain ⟨hlow,z,r0,r1,r2,r3,r4,s,b0,b1,b2,b3,hk,hm,hq⟩:=hY
 have HL:=hid hlow
 clear hlow HC
 go_wp2
 all_goals
  go_ret
  exact ⟨rfl,stA HL.out _⟩
theorem Gm.ck_q0 (m0:(n0:Int)<=1024) (m1:(n1:Int)<=1024) (ew0:0<=x) (ew1:x<=15) (el0:0<=l) (el1:l<=9) (ea0:0<=a) (ea1:a<=63) (ef0:0<=f) (ef1:f<=20000) (ek0:0<=k) (ek1:k<=200000) (ep0:0<=m) (ep1:m<=k+20000) (eq0:q < 0):CkT w u0 u1 u2 u3 u4 n0 n1 128 64 256 c0 c1 c2 c3 c4 x l a f k m q g 3:=by
 intro M S hC
 have hmx:max (n0:Int) n1<=1024:=by omega
 have HC:=hid hC
 clear hC
 go_enter Tryz.func23,Tryz.ntmps23
 go_upto_region 1 with fail
 refine Pl.cutW (CkW w u0 u1 u2 u3 u4 n0 n1 128 64 256 c0 c1 c2 c3 c4 x l a f k m q g) HC.out ?_
 intro Y hY
 obtain ⟨hlow,z,r0,r1,r2,r3,r4,s,b0,b1,b2,b3,hk,hm,hq⟩:=hY
 have HL:=hid hlow
 clear hlow HC
 go_wp2
 all_goals
  go_ret
  exact ⟨rfl,stA HL.out _⟩
theorem Gm.ck_q1 (m0:(n0:Int)<=1024) (m1:(n1:Int)<=1024) (ew0:0<=x) (ew1:x<=15) (el0:0<=l) (el1:l<=9) (ea0:0<=a) (ea1:a<=63) (ef0:0<=f) (ef1:f<=20000) (ek0:0<=k) (ek1:k<=200000) (ep0:0<=m) (ep1:m<=k+20000) (eq0:0<=q) (eq1:k+20000 < q):CkT w u0 u1 u2 u3 u4 n0 n1 128 64 256 c0 c1 c2 c3 c4 x l a f k m q g 3:=by
 intro M S hC
 have hmx:max (n0:Int) n1<=1024:=by omega
 have HC:=hid hC
 clear hC
 go_enter Tryz.func23,Tryz.ntmps23
 go_upto_region 1 with fail
 refine Pl.cutW (CkW w u0 u1 u2 u3 u4 n0 n1 128 64 256 c0 c1 c2 c3 c4 x l a f k m q g) HC.out ?_
 intro Y hY
 obtain ⟨hlow,z,r0,r1,r2,r3,r4,s,b0,b1,b2,b3,hk,hm,hq⟩:=hY
 have HL:=hid hlow
 clear hlow HC
 go_wp2
 all_goals
  go_ret
  exact ⟨rfl,stA HL.out _⟩
theorem Gm.ck_ok (m0:(n0:Int)<=1024) (m1:(n1:Int)<=1024) (ew0:0<=x) (ew1:x<=15) (el0:0<=l) (el1:l<=9) (ea0:0<=a) (ea1:a<=63) (ef0:0<=f) (ef1:f<=20000) (ek0:0<=k) (ek1:k<=200000) (ep0:0<=m) (ep1:m<=k+20000) (eq0:0<=q) (eq1:q<=k+20000):CkT w u0 u1 u2 u3 u4 n0 n1 128 64 256 c0 c1 c2 c3 c4 x l a f k m q g 0:=by
 intro M S hC
 have hmx:max (n0:Int) n1<=1024:=by omega
 have HC:=hid hC
 clear hC
 go_enter Tryz.func23,Tryz.ntmps23
 go_upto_region 1 with fail
 refine Pl.cutW (CkW w u0 u1 u2 u3 u4 n0 n1 128 64 256 c0 c1 c2 c3 c4 x l a f k m q g) HC.out ?_
 intro Y hY
 obtain ⟨hlow,z,r0,r1,r2,r3,r4,s,b0,b1,b2,b3,hk,hm,hq⟩:=hY
 have HL:=hid hlow
 clear hlow HC
 go_wp2
 all_goals
  go_ret
  exact ⟨rfl,stA HL.out _⟩
theorem Gm.check_any (M:Mach) (S:Sl) (w:World) (hS:S.lens M):Calls Tryz.prog 23 #[.agg (machL M S).toArray] w fun e w'=>e = .returned (.int .i64 M.chk)/\Below w.heap.size w w':=by
 obtain ⟨u0,c0,e0⟩:=hS 0 (by omega)
 obtain ⟨u1,c1,e1⟩:=hS 1 (by omega)
 obtain ⟨u2,c2,e2⟩:=hS 2 (by omega)
 obtain ⟨u3,c3,e3⟩:=hS 3 (by omega)
 obtain ⟨u4,c4,e4⟩:=hS 4 (by omega)
 have hC:=CkW.mk0 M S w 41 e0 e1 e2 e3 e4
 unfold Mach.chk
 by_cases hr:M.mrom.length<=1024/\M.arom.length<=1024
 ·rw [if_pos hr]
  have t0:(M.mrom.length:Int)<=1024:=by omega
  have t1:(M.arom.length:Int)<=1024:=by omega
  by_cases hl:M.ram.length=128/\M.own.length=64/\M.video.length=256
  ·rw [if_pos hl]
   obtain ⟨l1,l2,l3⟩:=hl
   rw [l1,l2,l3] at hC
   by_cases gw0:0<=M.s.w
   case neg =>
    rw [if_neg (by omega)]
    exact Gm.ck_w0 t0 t1  (by omega) M S hC
   case pos =>
   by_cases gw1:M.s.w<=15
   case neg =>
    rw [if_neg (by omega)]
    exact Gm.ck_w1 t0 t1 gw0 (by omega) M S hC
   case pos =>
   by_cases gl0:0<=M.b.l
   case neg =>
    rw [if_pos ⟨gw0,gw1⟩,if_neg (fun hb=>by have hb:=(bok_iff _ _ _).1 hb;have:=hb.l0;have:=hb.l1;have:=hb.a0;have:=hb.a1;have:=hb.f0;have:=hb.f1;omega)]
    exact Gm.ck_l0 t0 t1 gw0 gw1 (by omega) M S hC
   case pos =>
   by_cases gl1:M.b.l<=9
   case neg =>
    rw [if_pos ⟨gw0,gw1⟩,if_neg (fun hb=>by have hb:=(bok_iff _ _ _).1 hb;have:=hb.l0;have:=hb.l1;have:=hb.a0;have:=hb.a1;have:=hb.f0;have:=hb.f1;omega)]
    exact Gm.ck_l1 t0 t1 gw0 gw1 gl0 (by omega) M S hC
   case pos =>
   by_cases ga0:0<=M.b.a
   case neg =>
    rw [if_pos ⟨gw0,gw1⟩,if_neg (fun hb=>by have hb:=(bok_iff _ _ _).1 hb;have:=hb.l0;have:=hb.l1;have:=hb.a0;have:=hb.a1;have:=hb.f0;have:=hb.f1;omega)]
    exact Gm.ck_a0 t0 t1 gw0 gw1 gl0 gl1 (by omega) M S hC
   case pos =>
   by_cases ga1:M.b.a<=63
   case neg =>
    rw [if_pos ⟨gw0,gw1⟩,if_neg (fun hb=>by have hb:=(bok_iff _ _ _).1 hb;have:=hb.l0;have:=hb.l1;have:=hb.a0;have:=hb.a1;have:=hb.f0;have:=hb.f1;omega)]
    exact Gm.ck_a1 t0 t1 gw0 gw1 gl0 gl1 ga0 (by omega) M S hC
   case pos =>
   by_cases gf0:0<=M.b.f
   case neg =>
    rw [if_pos ⟨gw0,gw1⟩,if_neg (fun hb=>by have hb:=(bok_iff _ _ _).1 hb;have:=hb.l0;have:=hb.l1;have:=hb.a0;have:=hb.a1;have:=hb.f0;have:=hb.f1;omega)]
    exact Gm.ck_f0 t0 t1 gw0 gw1 gl0 gl1 ga0 ga1 (by omega) M S hC
   case pos =>
   by_cases gf1:M.b.f<=20000
   case neg =>
    rw [if_pos ⟨gw0,gw1⟩,if_neg (fun hb=>by have hb:=(bok_iff _ _ _).1 hb;have:=hb.l0;have:=hb.l1;have:=hb.a0;have:=hb.a1;have:=hb.f0;have:=hb.f1;omega)]
    exact Gm.ck_f1 t0 t1 gw0 gw1 gl0 gl1 ga0 ga1 gf0 (by omega) M S hC
   case pos =>
   by_cases gk0:0<=M.clock
   case neg =>
    rw [if_pos ⟨gw0,gw1⟩,if_pos ((bok_iff _ _ _).2 ⟨gl0,gl1,ga0,ga1,gf0,gf1⟩),if_neg (by omega)]
    exact Gm.ck_k0 t0 t1 gw0 gw1 gl0 gl1 ga0 ga1 gf0 gf1 (by omega) M S hC
   case pos =>
   by_cases gk1:M.clock<=200000
   case neg =>
    rw [if_pos ⟨gw0,gw1⟩,if_pos ((bok_iff _ _ _).2 ⟨gl0,gl1,ga0,ga1,gf0,gf1⟩),if_neg (by omega)]
    exact Gm.ck_k1 t0 t1 gw0 gw1 gl0 gl1 ga0 ga1 gf0 gf1 gk0 (by omega) M S hC
   case pos =>
   by_cases gp0:0<=M.mready
   case neg =>
    rw [if_pos ⟨gw0,gw1⟩,if_pos ((bok_iff _ _ _).2 ⟨gl0,gl1,ga0,ga1,gf0,gf1⟩),if_neg (by omega)]
    exact Gm.ck_p0 t0 t1 gw0 gw1 gl0 gl1 ga0 ga1 gf0 gf1 gk0 gk1 (by omega) M S hC
   case pos =>
   by_cases gp1:M.mready<=M.clock+20000
   case neg =>
    rw [if_pos ⟨gw0,gw1⟩,if_pos ((bok_iff _ _ _).2 ⟨gl0,gl1,ga0,ga1,gf0,gf1⟩),if_neg (by omega)]
    exact Gm.ck_p1 t0 t1 gw0 gw1 gl0 gl1 ga0 ga1 gf0 gf1 gk0 gk1 gp0 (by omega) M S hC
   case pos =>
   by_cases gq0:0<=M.aready
   case neg =>
    rw [if_pos ⟨gw0,gw1⟩,if_pos ((bok_iff _ _ _).2 ⟨gl0,gl1,ga0,ga1,gf0,gf1⟩),if_neg (by omega)]
    exact Gm.ck_q0 t0 t1 gw0 gw1 gl0 gl1 ga0 ga1 gf0 gf1 gk0 gk1 gp0 gp1 (by omega) M S hC
   case pos =>
   by_cases gq1:M.aready<=M.clock+20000
   case neg =>
    rw [if_pos ⟨gw0,gw1⟩,if_pos ((bok_iff _ _ _).2 ⟨gl0,gl1,ga0,ga1,gf0,gf1⟩),if_neg (by omega)]
    exact Gm.ck_q1 t0 t1 gw0 gw1 gl0 gl1 ga0 ga1 gf0 gf1 gk0 gk1 gp0 gp1 gq0 (by omega) M S hC
   case pos =>
   rw [if_pos ⟨gw0,gw1⟩,if_pos ((bok_iff _ _ _).2 ⟨gl0,gl1,ga0,ga1,gf0,gf1⟩),if_pos ⟨⟨gk0,gk1⟩,⟨gp0,gp1⟩,⟨gq0,gq1⟩⟩]
   exact Gm.ck_ok t0 t1 gw0 gw1 gl0 gl1 ga0 ga1 gf0 gf1 gk0 gk1 gp0 gp1 gq0 gq1 M S hC
  ·rw [if_neg hl]
   by_cases l1:M.ram.length=128
   case neg=>exact Gm.ck_ram t0 t1 (by simp;omega) M S hC
   by_cases l2:M.own.length=64
   case neg=>exact Gm.ck_own t0 t1 l1 (by simp;omega) M S hC
   exact Gm.ck_video t0 t1 l1 l2 (by simp;omega) M S hC
 ·rw [if_neg hr]
  exact Gm.ck_many (by omega) M S hC
end
end Go.Proofs.YtbhpfkjfijdmaaaGreatDoor
