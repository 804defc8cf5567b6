/-
  Parts of a proof, joined.
-/
import Derived.Test.YtbennamieealbaaGreatDoorZc17
import Derived.Test.YtbennamieealbaaGreatDoorZc18
import Derived.ChangeKeysEq
import Derived.Laws.StructEq
import Derived.Test.YtbennamieealbaaGreatDoorZc23
import Derived.Deep.DeepCutAuto
import Derived.Test.YtbennamieealbaaGreatDoorZc36
import Derived.Test.YtbennamieealbaaGreatDoorZc35
import Derived.Test.YtbennamieealbaaGreatDoorZc30
set_option linter.unusedVariables false
set_option maxRecDepth 100000
set_option maxHeartbeats 6400000
namespace Go.Proofs.YtbennamieealbaaGreatDoor
open Go.ChangeShapes Go.WideShapes Go.ChangeAt Go.RowKit
theorem zm6 (a0 a1 a2 a3 a4 a5 a6 a7:Int) (d:Nat) (w:World) :
 (Op.equalIn (d+2) 23 (.agg #[.int .u16 a0,.int .u16 a1,.int .u16 a2,.int .u16 a3,.int .u16 a4,.int .u16 a5,.int .u16 a6,.int .u16 a7]) (.agg #[.int .u16 a0,.int .u16 a1,.int .u16 a2,.int .u16 a3,.int .u16 a4,.int .u16 a5,.int .u16 a6,.int .u16 a7])).run Tryz.prog w = .ok true w:=by
 have u3:=Tryz.underlying22
 have x3:=Tryz.isAgg22
 have z3:=Tryz.sizeOf22
 have hU:Tryz.prog.cellsOf 22=1:=by kernel_rfl
 have hs:(Tryz.prog.info? 22).isSome=true:=by kernel_rfl
 obtain ⟨i,hi⟩:=Option.isSome_iff_exists.1 hs
 rw [run_equalIn_array w (d+1) _ _ Tryz.underlying23 hi,hU]
 simp only [List.range,List.range.loop,Op.eqItems]
 go_simp
theorem zm7 (c:C.Cpu) (w:World):(binOp .eql 25 (.agg #[.int .u16 (c.r 0),.int .u16 (c.r 1),.int .u16 (c.r 2),.int .u16 (c.r 3),.int .u16 (c.r 4),.int .u16 (c.r 5),.int .u16 (c.r 6),.int .u16 (c.r 7),.int .u16 c.PC,.bool c.Z,.bool c.N,.bool c.C,.bool c.V,.bool c.May,.bool c.Waits]) (.agg #[.int .u16 (c.r 0),.int .u16 (c.r 1),.int .u16 (c.r 2),.int .u16 (c.r 3),.int .u16 (c.r 4),.int .u16 (c.r 5),.int .u16 (c.r 6),.int .u16 (c.r 7),.int .u16 c.PC,.bool c.Z,.bool c.N,.bool c.C,.bool c.V,.bool c.May,.bool c.Waits])).run Tryz.prog w = .ok (.bool true) w:=by
 have u3:=Tryz.underlying22
 have x3:=Tryz.isAgg22
 have z3:=Tryz.sizeOf22
 have u4:=Tryz.underlying4
 have x4:=Tryz.isAgg4
 have z4:=Tryz.sizeOf4
 have x5:=Tryz.isAgg23
 have z5:=Tryz.sizeOf23
 have ha:=zm6 (c.r 0) (c.r 1) (c.r 2) (c.r 3) (c.r 4) (c.r 5) (c.r 6) (c.r 7) 9997
 have hS:Tryz.prog.underlying 25=some (.struct (Tryz.prog.fieldsOf 25)):=by kernel_rfl
 have hp:Tryz.prog.stoodInHeld 25=false:=by kernel_rfl
 rw [run_eql_struct,show (10000:Nat)=9999+1 from rfl,run_equalIn_agg w 9999 25 _ _ hS hp]
 simp only [Program.fieldsOf,Tryz.underlying25]
 go_simp
theorem zfq (c:C.Cpu) (w:World):(binOp .eql 25 (.agg (cpuL c).toArray) (.agg (cpuL c).toArray)).run Tryz.prog w = .ok (.bool true) w:=zm7 c w
theorem zkj (s:Sd) (w:World):(binOp .eql 36 (.agg (sndL s).toArray) (.agg (sndL s).toArray)).run Tryz.prog w = .ok (.bool true) w:=zoh s w
theorem zhX (d s:Int) (l:Bool) (n:Nat) (w:World):(Op.equalIn (n+2) 28 (.agg #[.int .u8 d,.bool l,.int .u8 s]) (.agg #[.int .u8 d,.bool l,.int .u8 s])).run Tryz.prog w = .ok true w:=by
 have u4:=Tryz.underlying4
 have a4:=Tryz.isAgg4
 have z4:=Tryz.sizeOf4
 have u5:=Tryz.underlying5
 have a5:=Tryz.isAgg5
 have z5:=Tryz.sizeOf5
 have hS:Tryz.prog.underlying 28=some (.struct (Tryz.prog.fieldsOf 28)):=by kernel_rfl
 have hp:Tryz.prog.stoodInHeld 28=false:=by kernel_rfl
 rw [run_equalIn_agg w (n+1) 28 _ _ hS hp]
 simp only [Program.fieldsOf,Tryz.underlying28]
 go_simp
theorem ziE (r c:Int) (on g:Bool) (w:World):(binOp .eql 31 (.agg #[.int .u16 r,.int .u16 c,.bool on,.bool g]) (.agg #[.int .u16 r,.int .u16 c,.bool on,.bool g])).run Tryz.prog w = .ok (.bool true) w:=by
 have u3:=Tryz.underlying22
 have a3:=Tryz.isAgg22
 have z3:=Tryz.sizeOf22
 have u4:=Tryz.underlying4
 have a4:=Tryz.isAgg4
 have z4:=Tryz.sizeOf4
 have hS:Tryz.prog.underlying 31=some (.struct (Tryz.prog.fieldsOf 31)):=by kernel_rfl
 have hp:Tryz.prog.stoodInHeld 31=false:=by kernel_rfl
 rw [run_eql_struct,show (10000:Nat)=9999+1 from rfl,run_equalIn_agg w 9999 31 _ _ hS hp]
 simp only [Program.fieldsOf,Tryz.underlying31]
 go_simp
theorem zkk (l a f:Int) (g:Bool) (w:World):(binOp .eql 38 (.agg #[.int .i64 l,.int .i64 a,.bool g,.int .i64 f]) (.agg #[.int .i64 l,.int .i64 a,.bool g,.int .i64 f])).run Tryz.prog w = .ok (.bool true) w:=by
 have u3:=Tryz.underlying3
 have a3:=Tryz.isAgg3
 have z3:=Tryz.sizeOf3
 have u4:=Tryz.underlying4
 have a4:=Tryz.isAgg4
 have z4:=Tryz.sizeOf4
 have hS:Tryz.prog.underlying 38=some (.struct (Tryz.prog.fieldsOf 38)):=by kernel_rfl
 have hp:Tryz.prog.stoodInHeld 38=false:=by kernel_rfl
 rw [run_eql_struct,show (10000:Nat)=9999+1 from rfl,run_equalIn_agg w 9999 38 _ _ hS hp]
 simp only [Program.fieldsOf,Tryz.underlying38]
 go_simp
theorem zkl (d s d' s':Int) (l l':Bool) (w:World):(binOp .eql 29 (.agg #[.int .u8 d,.bool l,.int .u8 s,.int .u8 d',.bool l',.int .u8 s']) (.agg #[.int .u8 d,.bool l,.int .u8 s,.int .u8 d',.bool l',.int .u8 s'])).run Tryz.prog w = .ok (.bool true) w:=by
 have h0:=zhX d s l 9997
 have h1:=zhX d' s' l' 9997
 have a3:=Tryz.isAgg28
 have z3:=Tryz.sizeOf28
 have hU:Tryz.prog.cellsOf 28=3:=by kernel_rfl
 have hs:(Tryz.prog.info? 28).isSome=true:=by kernel_rfl
 obtain ⟨i,hi⟩:=Option.isSome_iff_exists.1 hs
 rw [run_eql_struct,show (10000:Nat)=9999+1 from rfl,run_equalIn_array w 9999 _ _ Tryz.underlying29 hi,hU]
 simp only [List.range,List.range.loop,Op.eqItems]
 go_simp
theorem zkm (x y:Int) (w:World):(binOp .eql 39 (.agg #[.int .u8 x,.int .u8 y]) (.agg #[.int .u8 x,.int .u8 y])).run Tryz.prog w = .ok (.bool true) w:=by
 have u3:=Tryz.underlying5
 have a3:=Tryz.isAgg5
 have z3:=Tryz.sizeOf5
 have hU:Tryz.prog.cellsOf 5=1:=by kernel_rfl
 have hs:(Tryz.prog.info? 5).isSome=true:=by kernel_rfl
 obtain ⟨i,hi⟩:=Option.isSome_iff_exists.1 hs
 rw [run_eql_struct,show (10000:Nat)=9999+1 from rfl,run_equalIn_array w 9999 _ _ Tryz.underlying39 hi,hU]
 simp only [List.range,List.range.loop,Op.eqItems]
 go_simp
theorem Bu.loadG {P:Program} {ops:Array Oper} {rest:List Oper} {op:Oper} {a:Act} {w:World} {Q:Exit->Act->World->Prop} (hw:Region.wanted op (yielded ops a.tmps)=true) (ty:TypeId) (x:Operand) (ho:op.op = .load ty x)
 (b o:Nat) (hx:a.eval x = .pointer (some ⟨b,o,none⟩)) (cs:List Value) (d:TypeDesc) (hc:w.rangeAt b o cs)
 (hu:P.underlying ty=some d) (hd:d.isRow=true) (hi:(P.info? ty).map (·.size)=some cs.length)
 (h:wpList P ops Q rest (a.put op.dst (.agg cs.toArray)) w):wpList P ops Q (op::rest) a w :=
 wpList_step λK hK=>by rw [if_pos hw];exact wp_load_mid ty x ho b o hx cs d hc hu hd hi (hK _ _ h)
def five2 (S1 S2:Sl):List Value:=[S1.mr,S2.mr,S1.ar,S2.ar,S1.ra,S2.ra,S1.ow,S2.ow,S1.vi,S2.vi]
theorem zo5 (S1 S2:Sl) (k:Nat) (hk:k<5):(five2 S1 S2)[k*2]? = some (S1.get k)/\(five2 S1 S2)[k*2+1]? = some (S2.get k):=by
 rcases five hk with rfl|rfl|rfl|rfl|rfl <;> exact ⟨rfl,rfl⟩
structure SM (w : World) (M : Mach) (S1 S2 : Sl) (Y : World) : Prop where
 low:Below w.heap.size w Y
 a:Bx Y w.heap.size (machL M S1)
 b:Bx Y (w.heap.size+1) (machL M S2)
 l:Bx Y (w.heap.size+2) (five2 S1 S2)
theorem SM.kept {w Y Y':World} {M:Mach} {S1 S2:Sl} (h:SM w M S1 S2 Y) (hb:Below Y.heap.size Y Y'):SM w M S1 S2 Y':=⟨stp h.low hb,h.a.kept hb,h.b.kept hb,h.l.kept hb⟩
theorem Bx.mainR {Y:World} {b:Nat} {M:Mach} {S:Sl} (h:Bx Y b (machL M S)):Y.rangeAt b 0 (cpuL M.main):=λi v hi=>by
 refine h.at (0+i) v ?_
 rw [Nat.zero_add]
 unfold machL
 rw [List.getElem?_append_left (List.getElem?_eq_some_iff.1 hi).1]
 exact hi
theorem Bx.auxR {Y:World} {b:Nat} {M:Mach} {S:Sl} (h:Bx Y b (machL M S)):Y.rangeAt b 15 (cpuL M.aux):=λi v hi=>by
 refine h.at (15+i) v ?_
 unfold machL
 have hl:(cpuL M.main).length=15:=rfl
 rw [List.getElem?_append_right (by omega),hl,show 15+i-15=i by omega,List.getElem?_append_left (List.getElem?_eq_some_iff.1 hi).1]
 exact hi
theorem Bx.scl {Y:World} {b:Nat} {M:Mach} {S:Sl} (h:Bx Y b (machL M S)):Y.cell? ⟨b,35,none⟩=some (.int .u8 M.p0.d)/\Y.cell? ⟨b,36,none⟩=some (.bool M.p0.l)/\Y.cell? ⟨b,37,none⟩=some (.int .u8 M.p0.s)/\Y.cell? ⟨b,38,none⟩=some (.int .u8 M.p1.d)/\Y.cell? ⟨b,39,none⟩=some (.bool M.p1.l)/\Y.cell? ⟨b,40,none⟩=some (.int .u8 M.p1.s)/\Y.cell? ⟨b,41,none⟩=some (.int .u16 M.t.r)/\Y.cell? ⟨b,42,none⟩=some (.int .u16 M.t.c)/\Y.cell? ⟨b,43,none⟩=some (.bool M.t.on)/\Y.cell? ⟨b,44,none⟩=some (.bool M.t.g)/\Y.cell? ⟨b,61,none⟩=some (.int .i64 M.b.l)/\Y.cell? ⟨b,62,none⟩=some (.int .i64 M.b.a)/\Y.cell? ⟨b,63,none⟩=some (.bool M.b.g)/\Y.cell? ⟨b,64,none⟩=some (.int .i64 M.b.f)/\Y.cell? ⟨b,65,none⟩=some (.int .u16 M.fr)/\Y.cell? ⟨b,66,none⟩=some (.int .u16 M.to)/\Y.cell? ⟨b,67,none⟩=some (.bool M.granted)/\Y.cell? ⟨b,68,none⟩=some (.bool M.held)/\Y.cell? ⟨b,69,none⟩=some (.int .u8 M.m0)/\Y.cell? ⟨b,70,none⟩=some (.int .u8 M.m1)/\Y.cell? ⟨b,71,none⟩=some (.bool M.rung)/\Y.cell? ⟨b,72,none⟩=some (.int .i64 M.clock)/\Y.cell? ⟨b,73,none⟩=some (.int .i64 M.mready)/\Y.cell? ⟨b,74,none⟩=some (.int .i64 M.aready) :=
 ⟨h.at 35 _ rfl,h.at 36 _ rfl,h.at 37 _ rfl,h.at 38 _ rfl,h.at 39 _ rfl,h.at 40 _ rfl,h.at 41 _ rfl,h.at 42 _ rfl,h.at 43 _ rfl,h.at 44 _ rfl,h.at 61 _ rfl,h.at 62 _ rfl,h.at 63 _ rfl,h.at 64 _ rfl,h.at 65 _ rfl,h.at 66 _ rfl,h.at 67 _ rfl,h.at 68 _ rfl,h.at 69 _ rfl,h.at 70 _ rfl,h.at 71 _ rfl,h.at 72 _ rfl,h.at 73 _ rfl,h.at 74 _ rfl⟩
theorem SM.start (w:World) (M:Mach) (S1 S2:Sl) (o1 o2 o3:TypeId):SM w M S1 S2 (((w.alloc (.cells (machL M S1).toArray o1)).alloc (.cells (machL M S2).toArray o2)).alloc (.cells (five2 S1 S2).toArray o3)) :=
 ⟨stA (stA (stA (st0 w) _) _) _,((Bx.new w (machL M S1) o1 rfl).over _).over _,(Bx.new (w.alloc _) (machL M S2) o2 (by simp)).over _,Bx.new _ (five2 S1 S2) o3 (by simp)⟩
theorem zby (M:Mach) (S1 S2:Sl) (w:World) (h1:SlAt w S1 M) (h2:SlAt w S2 M) :
 Calls Tryz.prog 12 #[.agg (machL M S1).toArray,.agg (machL M S2).toArray] w λe w'=>e = .returned (.bool true)/\Below w.heap.size w w':=by
 have hA:=(Bx.new w (machL M S1) 41 (b:=w.heap.size) rfl).over (.cells (machL M S2).toArray 41)
 have hB:=Bx.new (w.alloc (.cells (machL M S1).toArray 41)) (machL M S2) 41 (b:=w.heap.size+1) (by simp)
 obtain ⟨a0,c0,e0⟩:=h1.lens 0 (by omega)
 obtain ⟨a1,c1,e1⟩:=h1.lens 1 (by omega)
 obtain ⟨a2,c2,e2⟩:=h1.lens 2 (by omega)
 obtain ⟨a3,c3,e3⟩:=h1.lens 3 (by omega)
 obtain ⟨a4,c4,e4⟩:=h1.lens 4 (by omega)
 obtain ⟨b0,d0,f0⟩:=h2.lens 0 (by omega)
 obtain ⟨b1,d1,f1⟩:=h2.lens 1 (by omega)
 obtain ⟨b2,d2,f2⟩:=h2.lens 2 (by omega)
 obtain ⟨b3,d3,f3⟩:=h2.lens 3 (by omega)
 obtain ⟨b4,d4,f4⟩:=h2.lens 4 (by omega)
 obtain ⟨x0,x1,x2,x3,x4⟩:=mcells5 hA e0 e1 e2 e3 e4
 obtain ⟨y0,y1,y2,y3,y4⟩:=mcells5 hB f0 f1 f2 f3 f4
 have hz:=hA.z
 have hz1:=hB.z
 have HE:Hid (five2 S1 S2=[.slice a0 M.mrom.length c0,.slice b0 M.mrom.length d0,.slice a1 M.arom.length c1,.slice b1 M.arom.length d1,.slice a2 M.ram.length c2,.slice b2 M.ram.length d2,.slice a3 M.own.length c3,.slice b3 M.own.length d3,.slice a4 M.video.length c4,.slice b4 M.video.length d4]):=hid (by
  unfold five2
  have e0':S1.mr=_:=e0
  have e1':S1.ar=_:=e1
  have e2':S1.ra=_:=e2
  have e3':S1.ow=_:=e3
  have e4':S1.vi=_:=e4
  have f0':S2.mr=_:=f0
  have f1':S2.ar=_:=f1
  have f2':S2.ra=_:=f2
  have f3':S2.ow=_:=f3
  have f4':S2.vi=_:=f4
  rw [e0',e1',e2',e3',e4',f0',f1',f2',f3',f4']
  rfl)
 have H1:=hid h1
 have H2:=hid h2
 clear hA hB e0 e1 e2 e3 e4 f0 f1 f2 f3 f4 h1 h2
 go_enter Tryz.func12,Tryz.ntmps12
 go_wp2
 refine Pl.cutW (SM w M S1 S2) (by have hs:=SM.start w M S1 S2 41 41 94;rw [HE.out] at hs;exact hs) ?_
 intro Y hY
 have HY:=hid hY
 clear hY
 go_loopw [34] (λi wr=>∃ k:Nat,k<=5/\i = .int .i64 k/\SM w M S1 S2 wr) (λi _=>5-(intOf i).toNat)
 case atStart=>exact ⟨0,by omega,rfl,HY.out⟩
 case round =>
  clear HY x0 x1 x2 x3 x4 y0 y1 y2 y3 y4 hz hz1
  obtain ⟨k,hk,rfl,hS⟩:=hrel
  by_cases hlt:k<5
  ·have hlt2:(k:Int)<5:=by omega
   obtain ⟨l1,l2⟩:=zo5 S1 S2 k hlt
   obtain ⟨u1,v1,g1⟩:=H1.out.lens k hlt
   obtain ⟨u2,v2,g2⟩:=H2.out.lens k hlt
   have m1:=hS.l.at _ _ l1
   have m2:=hS.l.at _ _ l2
   rw [g1] at m1
   rw [g2] at m2
   have K1:=H1.out k hlt
   have K2:=H2.out k hlt
   rw [g1] at K1
   rw [g2] at K2
   have HK1:=hid (K1.kept hS.low)
   have HK2:=hid (K2.kept hS.low)
   have hz:=hS.l.z
   have HS:=hid hS
   clear hS l1 l2 g1 g2 K1 K2 HE
   go_wp2_with (go_at_call 37;refine (zhC _ _ (M.byt k) (M.byt k) _ (HK1.out.kept (stA (st0 _) _)) (HK2.out.kept (stA (st0 _) _))).mono ?_;rw [beq_self_eq_true];rintro e w1 ⟨rfl,rfl⟩)
   go_roundw
   case rel=>exact ⟨k+1,by omega,by go_num,HS.out.kept (stA (st0 _) _)⟩
   case measure=>simp [intOf];omega
  ·obtain rfl:k=5:=by omega
   have q1:=zfq M.main
   have q2:=zfq M.aux
   have q3:=zkl M.p0.d M.p0.s M.p1.d M.p1.s M.p0.l M.p1.l
   have q4:=ziE M.t.r M.t.c M.t.on M.t.g
   have q5:=zkj M.s
   have q6:=zkk M.b.l M.b.a M.b.f M.b.g
   have q7:=zkm M.m0 M.m1
   obtain ⟨p35,p36,p37,p38,p39,p40,p41,p42,p43,p44,p61,p62,p63,p64,p65,p66,p67,p68,p69,p70,p71,p72,p73,p74⟩:=hS.a.scl
   obtain ⟨r35,r36,r37,r38,r39,r40,r41,r42,r43,r44,r61,r62,r63,r64,r65,r66,r67,r68,r69,r70,r71,r72,r73,r74⟩:=hS.b.scl
   have hz:=hS.a.z
   have hz1:=hS.b.z
   have HS:=hid hS
   clear hS HE
   go_upto_region 7 with fail
   simp only [List.append]
   go_wp2_with (first
    | (refine wpList_load_mid rfl 25 _ rfl w.heap.size 0 rfl (cpuL M.main) _ HS.out.a.mainR Tryz.underlying25 rfl zbT ?_)
    | (refine wpList_load_mid rfl 25 _ rfl (w.heap.size+1) 0 rfl (cpuL M.main) _ HS.out.b.mainR Tryz.underlying25 rfl zbT ?_)
    | (refine Bu.loadG rfl 25 _ rfl w.heap.size 15 rfl (cpuL M.aux) _ HS.out.a.auxR Tryz.underlying25 rfl zbT ?_)
    | (refine Bu.loadG rfl 25 _ rfl (w.heap.size+1) 15 rfl (cpuL M.aux) _ HS.out.b.auxR Tryz.underlying25 rfl zbT ?_)
    | (refine Bu.loadG rfl 36 _ rfl w.heap.size 45 rfl (sndL M.s) _ HS.out.a.sndR Tryz.underlying36 rfl zag ?_)
    | (refine Bu.loadG rfl 36 _ rfl (w.heap.size+1) 45 rfl (sndL M.s) _ HS.out.b.sndR Tryz.underlying36 rfl zag ?_))
   go_ret
   exact ⟨rfl,HS.out.low⟩
abbrev nil3:List Value:=[.slice none 0 0,.slice none 0 0,.slice none 0 0]
structure R3 (w1 : World) (X : Mach) (S' : Sl) (L : List Value) (Y : World) : Prop where
 old:Below w1.heap.size w1 Y
 x:Bx Y w1.heap.size (machL X S')
 s:Bx Y (w1.heap.size+1) L
section
variable {w1 Y Y' : World} {X : Mach} {S' : Sl} {L : List Value}
theorem R3.mk1 (w1:World) (X:Mach) (S':Sl):R3 w1 X S' nil3 (((w1.alloc (.cells (machL zeroM nilS).toArray 41)).alloc (.cells #[.slice none 0 0,.slice none 0 0,.slice none 0 0] 50)).setCells w1.heap.size 0 (machL X S')):=by
 have h1:=((Bx.new w1 (machL zeroM nilS) 41 (b:=w1.heap.size) rfl).over (.cells #[.slice none 0 0,.slice none 0 0,.slice none 0 0] 50)).puts 0 (machL X S') (by rw [zae,zae];omega)
 rw [zau _ _ (by rw [zae,zae])] at h1
 exact ⟨zaC (stA (stA (st0 w1) _) _) (Nat.le_refl _) _ _,h1,DW.bb (Bx.new (w1.alloc (.cells (machL zeroM nilS).toArray 41)) nil3 50 (b:=w1.heap.size+1) (by simp)) (by omega)⟩
theorem R3.put {x y z x' y' z':Value} (h:R3 w1 X S' [x,y,z] Y):R3 w1 X S' [x',y',z'] (Y.setCells (w1.heap.size+1) 0 [x',y',z']):=by
 have h1:=h.s.puts 0 [x',y',z'] (by simp)
 rw [zau _ _ (by simp)] at h1
 exact ⟨zaC h.old (by omega) _ _,DW.bb h.x (by omega),h1⟩
theorem R3.kept (h:R3 w1 X S' L Y) (hb:Below Y.heap.size Y Y'):R3 w1 X S' L Y':=⟨stp h.old hb,h.x.kept hb,h.s.kept hb⟩
end
theorem R3.th1 (w1:World):((w1.alloc (.cells (machL zeroM nilS).toArray 41)).alloc (.cells #[.slice none 0 0,.slice none 0 0,.slice none 0 0] 50)).there w1.heap.size 0 75:=((Bx.new w1 (machL zeroM nilS) 41 (b:=w1.heap.size) rfl).over _).there 0 75 (by rw [zae];omega)
theorem one3 (a1 a2 a3:Option Addr) (n1 n2 n3 c1 c2 c3:Nat):(#[.slice a1 n1 c1,.slice a2 n2 c2,.slice a3 n3 c3]:Array Value).all (·.oneCell')=true:=by simp [Value.oneCell']
theorem zbz (M:Mach) (S:Sl) (n:Int) (w:World):Calls Tryz.prog 9 #[.agg (machL M S).toArray,.int .i64 n] w λe w'=>e = .returned (.bool (decide (19000<M.b.f)))/\Below w.heap.size w w':=by
 have hB:=Bx.new w (machL M S) 41 (b:=w.heap.size) rfl
 have x64:=hB.at 64 (.int .i64 M.b.f) rfl
 clear hB
 go_enter Tryz.func9,Tryz.ntmps9
 go_wp2
 go_ret
 exact ⟨rfl,stA (st0 w) _⟩
theorem zq4:(lkStart.clocks 64).s.M.b.a=0/\(lkStart.clocks 64).s.M.b.f=0:=by
 have hb:BOk lkStart.s.M.b.l lkStart.s.M.b.a lkStart.s.M.b.f:=⟨show (0:Int)<=0 by decide,show (0:Int)<=9 by decide,show (0:Int)<=0 by decide,show (0:Int)<=63 by decide,show (0:Int)<=0 by decide,show (0:Int)<=20000 by decide⟩
 have hf:lkStart.s.M.b.f<=19000:=show (0:Int)<=19000 by decide
 have h1:=zbb lkStart hb hf 64 (by omega)
 exact ⟨by rw [h1.a];decide +kernel,by rw [h1.f];decide +kernel⟩
theorem zq5 (X:Mach) (hf:X.fit) (h1:X.b.l=1) (h2:X.b.a=0) (h3:X.b.f=0):(Cs.clocks ⟨⟨X,0,[]⟩,[],[],[]⟩ 64).ln.length=1:=by
 have hb:BOk X.b.l X.b.a X.b.f:=⟨hf.b.l0,hf.b.l1,hf.b.a0,hf.b.a1,hf.b.f0,by rw [h3];decide⟩
 have h4:=zea ⟨⟨X,0,[]⟩,[],[],[]⟩ hb (by show X.b.f<=19000;rw [h3];decide) rfl 64 (by omega)
 have:((Cs.clocks ⟨⟨X,0,[]⟩,[],[],[]⟩ 64).ln.map (λx=>(x.f,x.l))).length=1:=by
  rw [h4]
  show (linesAt X.b.l X.b.a X.b.f 64).length=1
  rw [h1,h2,h3]
  decide +kernel
 rwa [List.length_map] at this
theorem zq6 (X:Mach):(Cs.clocks ⟨⟨X,0,[]⟩,[],[],[]⟩ 64).s.M.clock=X.clock+64 :=
 (zbH ⟨⟨X,0,[]⟩,[],[],[]⟩ [] rfl List.Pairwise.nil (λx hx=>by cases hx) 64).1
theorem SlAt.away {W W':World} {S:Sl} {M:Mach} {B:Nat} (h:SlAt W S M) (hn:SlNew B S) (hz:W.heap.size<=W'.heap.size) (he:∀ j,j<W.heap.size->B<=j->W'.heap[j]? = W.heap[j]?):SlAt W' S M:=λj hj=>by
 rcases h j hj with h0|⟨g,o',cap,e1,e2,e3,e4⟩
 ·exact Or.inl h0
 ·have hg:B<=g:=hn j hj _ _ _ e1
  exact Or.inr ⟨g,o',cap,e1,e2,Nat.lt_of_lt_of_le e3 hz,λi c hi=>(World.cell?_of_block (w:=W) (he g e3 hg)).trans (e4 i c hi)⟩
theorem LE.kept {w Y Y':World} {b c:Nat} {M:Mach} {S:Sl} {L:List Value} (h:LE w b c M S L Y) (hb:Below Y.heap.size Y Y'):LE w b c M S L Y':=⟨stp h.low hb,h.bx.kept hb,h.sh.kept hb⟩
structure LF (w w3 : World) (b : Nat) (M : Mach) (S : Sl) (L : List Value) (Y : World) : Prop extends LE w b w3.heap.size M S L Y where
 size:w3.heap.size<=Y.heap.size
 old:∀ j,j<w3.heap.size->j≠b->Y.heap[j]? = w3.heap[j]?
theorem LF.mk1 {w w3:World} {b:Nat} {M X:Mach} {S S':Sl} (hb:Below w.heap.size w w3) (hge:w.heap.size<=b) (hx:Bx w3 b (machL M S)):LF w w3 b X S' [.slice none 0 0,.slice none 0 0,.slice none 0 0] ((w3.alloc (.cells #[.slice none 0 0,.slice none 0 0,.slice none 0 0] 50)).setCells b 0 (machL X S')) :=
 ⟨LE.mk1 hb hge hx,by rw [zaQ];simp,λj h1 h2=>(zad h2 _ _ _).trans ((stA (st0 w3) _).block j h1)⟩
theorem LF.put' {w w3 Y:World} {b:Nat} {X:Mach} {S':Sl} {x y z x' y' z':Value} (h:LF w w3 b X S' [x,y,z] Y) (hne:b≠w3.heap.size) (hge:w.heap.size<=w3.heap.size):LF w w3 b X S' [x',y',z'] (Y.setCells w3.heap.size 0 [x',y',z']) :=
 ⟨h.toLE.put hne hge,by rw [zaQ];exact h.size,λj h1 h2=>(zad (by omega) _ _ _).trans (h.old j h1 h2)⟩
theorem zan (w:World) (hF:AF w):Calls Tryz.prog 7 #[] w λe w'=>e = .returned (.bool true)/\Below w.heap.size w w':=by
 have HB:=hid (znI lkText lkRom (by decide) (by decide) zo3 w hF)
 have HF:=hid hF
 have hE:=zsr
 obtain ⟨K,hK⟩:∃ K,K=lkStart.clocks 64:=⟨_,rfl⟩
 rw [<- hK] at hE
 have HK:=hid hK
 have HE:=hid hE
 clear hF hK hE
 go_enter Tryz.func7,Tryz.ntmps7
 go_wp2_with (first
  | (go_at_call 24;refine HB.out.mono ?_;rintro e w1 ⟨v,rfl,hv,hb1⟩;have HV:=hid (zo4 hv);have HL1:=hid hb1;clear hv hb1)
  | (go_at_call 25;refine (zm3 lkRom [] v (.slice none 0 0) w1 HV.out (zss _) (by decide) (by decide)).mono ?_;rintro e w2 ⟨S2,rfl,hs2,hf2,hn2,hb2⟩;have HS2:=hid hs2;have HF2:=hid hf2;have HL2:=hid (stp HL1.out hb2);clear hs2 hf2 hn2 hb2)
  | (refine wpList_store_mid rfl 41 _ _ rfl w2.heap.size 0 (machL (newD lkRom []) S2).toArray rfl rfl ((Bx.new w2 (machL zeroM nilS) 41 (b:=w2.heap.size) rfl).there 0 75 (by rw [zae];omega)) zaa (zaw _ _ (zbY HS2.out)) ?_
     refine Pl.cutL (LBx w w2.heap.size (newD lkRom []) S2) (LBx.mk0 HL2.out HS2.out) ?_
     intro Y1 hY1
     have HY1:=hid hY1
     clear hY1)
  | (refine wpList_load_mid rfl 41 _ rfl w2.heap.size 0 rfl (machL X F.S) _ HY3.out.bx.c Tryz.underlying41 rfl zaa ?_)
  | (refine wpList_load_mid rfl 41 _ rfl w2.heap.size 0 rfl (machL (newD lkRom []) S2) _ HY1.out.bx.c Tryz.underlying41 rfl zaa ?_)
  | (go_at_call 10;refine (zee X F.S (.slice none 0 0) [] 64 Y3 HSX3.out (HF.out.kept HY3.out.low).shapes (zm5 _ _) (λx hx=>by cases hx) HFX.out (by rw [HXB.out.2];decide) rfl ⟨by decide,by rw [HX.out.2.1];decide⟩).mono ?_
     rintro e w4 ⟨F4,N4,tln,tsm,tw,rfl,hT4,_,_,_,hb4⟩
     obtain ⟨b1,d1,e1⟩:=zdd hT4.ln
     obtain ⟨b2,n2,d2,e2⟩:=zay hT4.sm
     obtain ⟨b3,n4,d3,e3⟩:=zay hT4.ws
     rw [zq5 X HFX.out HX.out.2.2 HXB.out.1 HXB.out.2] at e1
     subst e1 e2 e3
     have HIS4:=hid (zbY hT4.sl)
     have HL4:=hid (stp HY3.out.low hb4)
     have HY34:=hid ((⟨HL4.out,HY3.out.bx.kept hb4,HY3.out.sh.kept hb4⟩:LE w w2.heap.size w3.heap.size X F.S [.slice a1 1 c1,.slice a2 4 c2,.slice a3 n3 c3] w4))
     obtain ⟨X4,hX4⟩:∃ X4,X4=(Cs.clocks ⟨⟨X,0,[]⟩,[],[],[]⟩ 64).s.M:=⟨_,rfl⟩
     have HX4:Hid (X4.clock=128):=hid (by rw [hX4,zq6 X,HX.out.2.1];rfl)
     rw [<- hX4]
     clear hT4 hb4 hX4)
  | (refine wpList_store_mid rfl 41 _ _ rfl w4.heap.size 0 (machL X4 F4.S).toArray rfl rfl (R3.th1 w4) zaa (zaw _ _ HIS4.out) ?_
     refine Pl.cutL (R3 w4 X4 F4.S nil3) (R3.mk1 w4 X4 F4.S) ?_
     intro Y5 hY5
     have HY5:=hid hY5
     clear hY5)
  | (refine wpList_store_mid rfl 50 _ _ rfl (w4.heap.size+1) 0 #[.slice b1 1 d1,.slice b2 n2 d2,.slice b3 n4 d3] rfl rfl (HY5.out.s.there 0 3 (by simp)) zaj (one3 _ _ _ _ _ _ _ _ _) ?_
     refine Pl.cutL (R3 w4 X4 F4.S [.slice b1 1 d1,.slice b2 n2 d2,.slice b3 n4 d3]) HY5.out.put ?_
     intro Y6 hY6
     have HY6:=hid hY6
     have hE:=HY34.out.kept hY6.old
     have HL6:=hid hE.low
     have y0:=hE.sh.at 0 _ rfl
     have y1:=hE.sh.at 1 _ rfl
     have yz:=hE.sh.z
     obtain ⟨x1,x2,x3⟩:=cell_of hE.bx
     have xz:=hE.bx.z
     rw [HX.out.1] at x1
     rw [HX.out.2.1] at x2
     rw [HX.out.2.2] at x3
     have u0:=hY6.s.at 0 _ rfl
     have uz:=hY6.s.z
     have u2:=hY6.x.at 72 (.int .i64 X4.clock) rfl
     have uz2:=hY6.x.z
     rw [HX4.out] at u2
     clear hY6 hE)
  | (go_at_call 11;refine (zhV (newD lkRom []) S2 (.slice none 0 0) [] 64 Y1 HY1.out.sl (HF.out.kept HY1.out.low).shapes (zm5 _ _) (λx hx=>by cases hx) HF2.out (by show (0:Int)<=20000;decide) rfl ⟨by decide,by show (0:Int)+64<=200000;decide⟩).mono ?_
     rintro e w3 ⟨F,N,vln,vsm,vw,rfl,hT,hfb,_,hnw,hb3⟩
     change Told F N (lkStart.clocks 64) vln vsm vw w3 at hT
     have HKQ:=HK.out
     rw [show (⟨⟨newD lkRom [],0,[]⟩,[],[],[]⟩:Cs)=lkStart from rfl,<- HKQ]
     rw [<- HKQ] at hT
     obtain ⟨a1,c1,e1⟩:=zdd hT.ln
     obtain ⟨a2,c2,e2⟩:=zdd hT.sm
     obtain ⟨a3,n3,c3,e3⟩:=zay hT.ws
     rw [HE.out.1] at e1
     rw [HE.out.2.1] at e2
     subst e1 e2 e3
     have HIS:=hid (zbY hT.sl)
     have HSX:=hid hT.sl
     have HNW:=hid hnw
     have HFB:=hid hfb
     have HFX:=hid hT.fit
     have HB3:=hid (HY1.out.bx.kept hb3)
     have HL3:=hid (stp HY1.out.low hb3)
     have hne:w2.heap.size≠w3.heap.size:=by have:=HB3.out.z;omega
     obtain ⟨X,hX⟩:∃ X,X=K.s.M:=⟨_,rfl⟩
     have HX:Hid (X.main.Waits=true/\X.clock=64/\X.b.l=1):=hid (by rw [hX];exact HE.out.2.2)
     have HXB:Hid (X.b.a=0/\X.b.f=0):=hid (by rw [hX,HKQ];exact zq4)
     rw [<- hX] at HSX HFX ⊢
     clear hT hb3 hX HKQ hfb hnw)
  | (refine wpList_store_mid rfl 41 _ _ rfl w2.heap.size 0 (machL X F.S).toArray rfl rfl ((HB3.out.over _).there 0 75 (by rw [zae];omega)) zaa (zaw _ _ HIS.out) ?_
     refine Pl.cutL (LF w w3 w2.heap.size X F.S [.slice none 0 0,.slice none 0 0,.slice none 0 0]) (LF.mk1 HL3.out HY1.out.ge HB3.out) ?_
     intro Y2 hY2
     have HY2:=hid hY2
     clear hY2)
  | (refine wpList_store_mid rfl 50 _ _ rfl w3.heap.size 0 #[.slice a1 1 c1,.slice a2 4 c2,.slice a3 n3 c3] rfl rfl (HY2.out.sh.there 0 3 (by simp)) zaj (by simp [Value.oneCell']) ?_
     refine Pl.cutL (LF w w3 w2.heap.size X F.S [.slice a1 1 c1,.slice a2 4 c2,.slice a3 n3 c3]) (HY2.out.put' hne HL3.out.size) ?_
     intro Y3 hY3
     have HY3:=hid hY3
     have HSX3:=hid (HSX.out.away HNW.out hY3.size (λj h1 h2=>hY3.old j h1 (by have:=HFB.out;have:=HY1.out.bx.z;omega)))
     clear hY3))
 go_ret
 exact ⟨rfl,HL6.out⟩
section
variable {l a f : Int}
end
theorem zhY {w:World} {B z n:Nat} {t:TypeId} {v:Value} {xs:List Value} (h:w.ownsRow B t z v n xs) (h0:0<n):∃ g cap,v = .slice (some ⟨g,0,none⟩) n cap/\n<=cap/\g<w.heap.size /\ ∀ j x,xs[j]? = some x->w.cell? ⟨g,j,none⟩=some x:=by
 rcases h.2 with ⟨e0,e1⟩|⟨g,cap,cur,e0,hb,hg,hn,hm,hs,ht⟩
 ·omega
 ·refine ⟨g,cap,e0,hn,(Array.getElem?_eq_some_iff.1 hg).1,λj x hj=>?_⟩
  rw [<- ht] at hj
  have hjl:j<n*z:=by
   have:=(List.getElem?_eq_some_iff.1 hj).1
   rw [List.length_take] at this;omega
  rw [List.getElem?_take_of_lt hjl,Array.getElem?_toList] at hj
  unfold World.cell?
  simp [hg,hj]
end Go.Proofs.YtbennamieealbaaGreatDoor
