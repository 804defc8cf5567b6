/-
  Parts of a proof, joined.
-/
import Derived.Test.YtbennamieealbaaGreatDoorZg07
import Derived.Test.YtbennamieealbaaGreatDoorZg12
import Derived.ChangeKeysEq
import Derived.Laws.StructEq
import Derived.Test.YtbennamieealbaaGreatDoorZg18
import Derived.Deep.DeepCutAuto
import Derived.Test.YtbennamieealbaaGreatDoorZg19
import Derived.Test.YtbennamieealbaaGreatDoorZg17
import Derived.Test.YtbennamieealbaaGreatDoorZg01
import Derived.Deep.RegionHeld3
set_option linter.unusedVariables false
set_option maxRecDepth 100000
set_option maxHeartbeats 3200000
namespace Go.Proofs.YtbennamieealbaaGreatDoor
open Go.ChangeShapes Go.WideShapes Go.ChangeAt Go.RowKit
theorem ziW (a0 a1 a2 a3 a4 a5 a6 a7:Int) (d:Nat) (w:World) :
 (Op.equalIn (d+2) 23 (.agg #[.int .u16 a0,.int .u16 a1,.int .u16 a2,.int .u16 a3,.int .u16 a4,.int .u16 a5,.int .u16 a6,.int .u16 a7]) (.agg #[.int .u16 a0,.int .u16 a1,.int .u16 a2,.int .u16 a3,.int .u16 a4,.int .u16 a5,.int .u16 a6,.int .u16 a7])).run Tryz.prog w = .ok true w:=by
 have u3:=Tryz.underlying22
 have x3:=Tryz.isAgg22
 have z3:=Tryz.sizeOf22
 have hU:Tryz.prog.cellsOf 22=1:=by kernel_rfl
 have hs:(Tryz.prog.info? 22).isSome=true:=by kernel_rfl
 obtain ⟨i,hi⟩:=Option.isSome_iff_exists.1 hs
 rw [run_equalIn_array w (d+1) _ _ Tryz.underlying23 hi,hU]
 simp only [List.range,List.range.loop,Op.eqItems]
 go_simp
theorem ziX (c:C.Cpu) (w:World):(binOp .eql 25 (.agg #[.int .u16 (c.r 0),.int .u16 (c.r 1),.int .u16 (c.r 2),.int .u16 (c.r 3),.int .u16 (c.r 4),.int .u16 (c.r 5),.int .u16 (c.r 6),.int .u16 (c.r 7),.int .u16 c.PC,.bool c.Z,.bool c.N,.bool c.C,.bool c.V,.bool c.May,.bool c.Waits]) (.agg #[.int .u16 (c.r 0),.int .u16 (c.r 1),.int .u16 (c.r 2),.int .u16 (c.r 3),.int .u16 (c.r 4),.int .u16 (c.r 5),.int .u16 (c.r 6),.int .u16 (c.r 7),.int .u16 c.PC,.bool c.Z,.bool c.N,.bool c.C,.bool c.V,.bool c.May,.bool c.Waits])).run Tryz.prog w = .ok (.bool true) w:=by
 have u3:=Tryz.underlying22
 have x3:=Tryz.isAgg22
 have z3:=Tryz.sizeOf22
 have u4:=Tryz.underlying4
 have x4:=Tryz.isAgg4
 have z4:=Tryz.sizeOf4
 have x5:=Tryz.isAgg23
 have z5:=Tryz.sizeOf23
 have ha:=ziW (c.r 0) (c.r 1) (c.r 2) (c.r 3) (c.r 4) (c.r 5) (c.r 6) (c.r 7) 9997
 have hS:Tryz.prog.underlying 25=some (.struct (Tryz.prog.fieldsOf 25)):=by kernel_rfl
 have hp:Tryz.prog.stoodInHeld 25=false:=by kernel_rfl
 rw [run_eql_struct,show (10000:Nat)=9999+1 from rfl,run_equalIn_agg w 9999 25 _ _ hS hp]
 simp only [Program.fieldsOf,Tryz.underlying25]
 go_simp
theorem zet (c:C.Cpu) (w:World):(binOp .eql 25 (.agg (cpuL c).toArray) (.agg (cpuL c).toArray)).run Tryz.prog w = .ok (.bool true) w:=ziX c w
theorem zhC (s:Sd) (w:World):(binOp .eql 36 (.agg (sndL s).toArray) (.agg (sndL s).toArray)).run Tryz.prog w = .ok (.bool true) w:=zkQ s w
theorem zfN (d s:Int) (l:Bool) (n:Nat) (w:World):(Op.equalIn (n+2) 28 (.agg #[.int .u8 d,.bool l,.int .u8 s]) (.agg #[.int .u8 d,.bool l,.int .u8 s])).run Tryz.prog w = .ok true w:=by
 have u4:=Tryz.underlying4
 have a4:=Tryz.isAgg4
 have z4:=Tryz.sizeOf4
 have u5:=Tryz.underlying5
 have a5:=Tryz.isAgg5
 have z5:=Tryz.sizeOf5
 have hS:Tryz.prog.underlying 28=some (.struct (Tryz.prog.fieldsOf 28)):=by kernel_rfl
 have hp:Tryz.prog.stoodInHeld 28=false:=by kernel_rfl
 rw [run_equalIn_agg w (n+1) 28 _ _ hS hp]
 simp only [Program.fieldsOf,Tryz.underlying28]
 go_simp
theorem zgp (r c:Int) (on g:Bool) (w:World):(binOp .eql 31 (.agg #[.int .u16 r,.int .u16 c,.bool on,.bool g]) (.agg #[.int .u16 r,.int .u16 c,.bool on,.bool g])).run Tryz.prog w = .ok (.bool true) w:=by
 have u3:=Tryz.underlying22
 have a3:=Tryz.isAgg22
 have z3:=Tryz.sizeOf22
 have u4:=Tryz.underlying4
 have a4:=Tryz.isAgg4
 have z4:=Tryz.sizeOf4
 have hS:Tryz.prog.underlying 31=some (.struct (Tryz.prog.fieldsOf 31)):=by kernel_rfl
 have hp:Tryz.prog.stoodInHeld 31=false:=by kernel_rfl
 rw [run_eql_struct,show (10000:Nat)=9999+1 from rfl,run_equalIn_agg w 9999 31 _ _ hS hp]
 simp only [Program.fieldsOf,Tryz.underlying31]
 go_simp
theorem zhD (l a f:Int) (g:Bool) (w:World):(binOp .eql 38 (.agg #[.int .i64 l,.int .i64 a,.bool g,.int .i64 f]) (.agg #[.int .i64 l,.int .i64 a,.bool g,.int .i64 f])).run Tryz.prog w = .ok (.bool true) w:=by
 have u3:=Tryz.underlying3
 have a3:=Tryz.isAgg3
 have z3:=Tryz.sizeOf3
 have u4:=Tryz.underlying4
 have a4:=Tryz.isAgg4
 have z4:=Tryz.sizeOf4
 have hS:Tryz.prog.underlying 38=some (.struct (Tryz.prog.fieldsOf 38)):=by kernel_rfl
 have hp:Tryz.prog.stoodInHeld 38=false:=by kernel_rfl
 rw [run_eql_struct,show (10000:Nat)=9999+1 from rfl,run_equalIn_agg w 9999 38 _ _ hS hp]
 simp only [Program.fieldsOf,Tryz.underlying38]
 go_simp
theorem zhE (d s d' s':Int) (l l':Bool) (w:World):(binOp .eql 29 (.agg #[.int .u8 d,.bool l,.int .u8 s,.int .u8 d',.bool l',.int .u8 s']) (.agg #[.int .u8 d,.bool l,.int .u8 s,.int .u8 d',.bool l',.int .u8 s'])).run Tryz.prog w = .ok (.bool true) w:=by
 have h0:=zfN d s l 9997
 have h1:=zfN d' s' l' 9997
 have a3:=Tryz.isAgg28
 have z3:=Tryz.sizeOf28
 have hU:Tryz.prog.cellsOf 28=3:=by kernel_rfl
 have hs:(Tryz.prog.info? 28).isSome=true:=by kernel_rfl
 obtain ⟨i,hi⟩:=Option.isSome_iff_exists.1 hs
 rw [run_eql_struct,show (10000:Nat)=9999+1 from rfl,run_equalIn_array w 9999 _ _ Tryz.underlying29 hi,hU]
 simp only [List.range,List.range.loop,Op.eqItems]
 go_simp
theorem zhF (x y:Int) (w:World):(binOp .eql 39 (.agg #[.int .u8 x,.int .u8 y]) (.agg #[.int .u8 x,.int .u8 y])).run Tryz.prog w = .ok (.bool true) w:=by
 have u3:=Tryz.underlying5
 have a3:=Tryz.isAgg5
 have z3:=Tryz.sizeOf5
 have hU:Tryz.prog.cellsOf 5=1:=by kernel_rfl
 have hs:(Tryz.prog.info? 5).isSome=true:=by kernel_rfl
 obtain ⟨i,hi⟩:=Option.isSome_iff_exists.1 hs
 rw [run_eql_struct,show (10000:Nat)=9999+1 from rfl,run_equalIn_array w 9999 _ _ Tryz.underlying39 hi,hU]
 simp only [List.range,List.range.loop,Op.eqItems]
 go_simp
theorem Bu.loadG {P:Program} {ops:Array Oper} {rest:List Oper} {op:Oper} {a:Act} {w:World} {Q:Exit->Act->World->Prop} (hw:Region.wanted op (yielded ops a.tmps)=true) (ty:TypeId) (x:Operand) (ho:op.op = .load ty x)
 (b o:Nat) (hx:a.eval x = .pointer (some ⟨b,o,none⟩)) (cs:List Value) (d:TypeDesc) (hc:w.rangeAt b o cs)
 (hu:P.underlying ty=some d) (hd:d.isRow=true) (hi:(P.info? ty).map (·.size)=some cs.length)
 (h:wpList P ops Q rest (a.put op.dst (.agg cs.toArray)) w):wpList P ops Q (op::rest) a w :=
 wpList_step λK hK=>by rw [if_pos hw];exact wp_load_mid ty x ho b o hx cs d hc hu hd hi (hK _ _ h)
def five2 (S1 S2:Sl):List Value:=[S1.mr,S2.mr,S1.ar,S2.ar,S1.ra,S2.ra,S1.ow,S2.ow,S1.vi,S2.vi]
theorem zld (S1 S2:Sl) (k:Nat) (hk:k<5):(five2 S1 S2)[k*2]? = some (S1.get k)/\(five2 S1 S2)[k*2+1]? = some (S2.get k):=by
 rcases five hk with rfl|rfl|rfl|rfl|rfl <;> exact ⟨rfl,rfl⟩
structure SM (w : World) (M : Mach) (S1 S2 : Sl) (Y : World) : Prop where
 low:Below w.heap.size w Y
 a:Bx Y w.heap.size (machL M S1)
 b:Bx Y (w.heap.size+1) (machL M S2)
 l:Bx Y (w.heap.size+2) (five2 S1 S2)
theorem SM.kept {w Y Y':World} {M:Mach} {S1 S2:Sl} (h:SM w M S1 S2 Y) (hb:Below Y.heap.size Y Y'):SM w M S1 S2 Y':=⟨stp h.low hb,h.a.kept hb,h.b.kept hb,h.l.kept hb⟩
theorem Bx.mainR {Y:World} {b:Nat} {M:Mach} {S:Sl} (h:Bx Y b (machL M S)):Y.rangeAt b 0 (cpuL M.main):=λi v hi=>by
 refine h.at (0+i) v ?_
 rw [Nat.zero_add]
 unfold machL
 rw [List.getElem?_append_left (List.getElem?_eq_some_iff.1 hi).1]
 exact hi
theorem Bx.auxR {Y:World} {b:Nat} {M:Mach} {S:Sl} (h:Bx Y b (machL M S)):Y.rangeAt b 15 (cpuL M.aux):=λi v hi=>by
 refine h.at (15+i) v ?_
 unfold machL
 have hl:(cpuL M.main).length=15:=rfl
 rw [List.getElem?_append_right (by omega),hl,show 15+i-15=i by omega,List.getElem?_append_left (List.getElem?_eq_some_iff.1 hi).1]
 exact hi
theorem Bx.scl {Y:World} {b:Nat} {M:Mach} {S:Sl} (h:Bx Y b (machL M S)):Y.cell? ⟨b,35,none⟩=some (.int .u8 M.p0.d)/\Y.cell? ⟨b,36,none⟩=some (.bool M.p0.l)/\Y.cell? ⟨b,37,none⟩=some (.int .u8 M.p0.s)/\Y.cell? ⟨b,38,none⟩=some (.int .u8 M.p1.d)/\Y.cell? ⟨b,39,none⟩=some (.bool M.p1.l)/\Y.cell? ⟨b,40,none⟩=some (.int .u8 M.p1.s)/\Y.cell? ⟨b,41,none⟩=some (.int .u16 M.t.r)/\Y.cell? ⟨b,42,none⟩=some (.int .u16 M.t.c)/\Y.cell? ⟨b,43,none⟩=some (.bool M.t.on)/\Y.cell? ⟨b,44,none⟩=some (.bool M.t.g)/\Y.cell? ⟨b,61,none⟩=some (.int .i64 M.b.l)/\Y.cell? ⟨b,62,none⟩=some (.int .i64 M.b.a)/\Y.cell? ⟨b,63,none⟩=some (.bool M.b.g)/\Y.cell? ⟨b,64,none⟩=some (.int .i64 M.b.f)/\Y.cell? ⟨b,65,none⟩=some (.int .u16 M.fr)/\Y.cell? ⟨b,66,none⟩=some (.int .u16 M.to)/\Y.cell? ⟨b,67,none⟩=some (.bool M.granted)/\Y.cell? ⟨b,68,none⟩=some (.bool M.held)/\Y.cell? ⟨b,69,none⟩=some (.int .u8 M.m0)/\Y.cell? ⟨b,70,none⟩=some (.int .u8 M.m1)/\Y.cell? ⟨b,71,none⟩=some (.bool M.rung)/\Y.cell? ⟨b,72,none⟩=some (.int .i64 M.clock)/\Y.cell? ⟨b,73,none⟩=some (.int .i64 M.mready)/\Y.cell? ⟨b,74,none⟩=some (.int .i64 M.aready) :=
 ⟨h.at 35 _ rfl,h.at 36 _ rfl,h.at 37 _ rfl,h.at 38 _ rfl,h.at 39 _ rfl,h.at 40 _ rfl,h.at 41 _ rfl,h.at 42 _ rfl,h.at 43 _ rfl,h.at 44 _ rfl,h.at 61 _ rfl,h.at 62 _ rfl,h.at 63 _ rfl,h.at 64 _ rfl,h.at 65 _ rfl,h.at 66 _ rfl,h.at 67 _ rfl,h.at 68 _ rfl,h.at 69 _ rfl,h.at 70 _ rfl,h.at 71 _ rfl,h.at 72 _ rfl,h.at 73 _ rfl,h.at 74 _ rfl⟩
theorem SM.start (w:World) (M:Mach) (S1 S2:Sl) (o1 o2 o3:TypeId):SM w M S1 S2 (((w.alloc (.cells (machL M S1).toArray o1)).alloc (.cells (machL M S2).toArray o2)).alloc (.cells (five2 S1 S2).toArray o3)) :=
 ⟨stA (stA (stA (st0 w) _) _) _,((Bx.new w (machL M S1) o1 rfl).over _).over _,(Bx.new (w.alloc _) (machL M S2) o2 (by simp)).over _,Bx.new _ (five2 S1 S2) o3 (by simp)⟩
theorem zdm (M:Mach) (S1 S2:Sl) (w:World) (h1:SlAt w S1 M) (h2:SlAt w S2 M) :
 Calls Tryz.prog 12 #[.agg (machL M S1).toArray,.agg (machL M S2).toArray] w λe w'=>e = .returned (.bool true)/\Below w.heap.size w w':=by
 have hA:=(Bx.new w (machL M S1) 41 (b:=w.heap.size) rfl).over (.cells (machL M S2).toArray 41)
 have hB:=Bx.new (w.alloc (.cells (machL M S1).toArray 41)) (machL M S2) 41 (b:=w.heap.size+1) (by simp)
 obtain ⟨a0,c0,e0⟩:=h1.lens 0 (by omega)
 obtain ⟨a1,c1,e1⟩:=h1.lens 1 (by omega)
 obtain ⟨a2,c2,e2⟩:=h1.lens 2 (by omega)
 obtain ⟨a3,c3,e3⟩:=h1.lens 3 (by omega)
 obtain ⟨a4,c4,e4⟩:=h1.lens 4 (by omega)
 obtain ⟨b0,d0,f0⟩:=h2.lens 0 (by omega)
 obtain ⟨b1,d1,f1⟩:=h2.lens 1 (by omega)
 obtain ⟨b2,d2,f2⟩:=h2.lens 2 (by omega)
 obtain ⟨b3,d3,f3⟩:=h2.lens 3 (by omega)
 obtain ⟨b4,d4,f4⟩:=h2.lens 4 (by omega)
 obtain ⟨x0,x1,x2,x3,x4⟩:=mcells5 hA e0 e1 e2 e3 e4
 obtain ⟨y0,y1,y2,y3,y4⟩:=mcells5 hB f0 f1 f2 f3 f4
 have hz:=hA.z
 have hz1:=hB.z
 have HE:Hid (five2 S1 S2=[.slice a0 M.mrom.length c0,.slice b0 M.mrom.length d0,.slice a1 M.arom.length c1,.slice b1 M.arom.length d1,.slice a2 M.ram.length c2,.slice b2 M.ram.length d2,.slice a3 M.own.length c3,.slice b3 M.own.length d3,.slice a4 M.video.length c4,.slice b4 M.video.length d4]):=hid (by
  unfold five2
  have e0':S1.mr=_:=e0
  have e1':S1.ar=_:=e1
  have e2':S1.ra=_:=e2
  have e3':S1.ow=_:=e3
  have e4':S1.vi=_:=e4
  have f0':S2.mr=_:=f0
  have f1':S2.ar=_:=f1
  have f2':S2.ra=_:=f2
  have f3':S2.ow=_:=f3
  have f4':S2.vi=_:=f4
  rw [e0',e1',e2',e3',e4',f0',f1',f2',f3',f4']
  rfl)
 have H1:=hid h1
 have H2:=hid h2
 clear hA hB e0 e1 e2 e3 e4 f0 f1 f2 f3 f4 h1 h2
 go_enter Tryz.func12,Tryz.ntmps12
 go_wp2
 refine Pl.cutW (SM w M S1 S2) (by have hs:=SM.start w M S1 S2 41 41 94;rw [HE.out] at hs;exact hs) ?_
 intro Y hY
 have HY:=hid hY
 clear hY
 go_loopw [34] (λi wr=>∃ k:Nat,k<=5/\i = .int .i64 k/\SM w M S1 S2 wr) (λi _=>5-(intOf i).toNat)
 case atStart=>exact ⟨0,by omega,rfl,HY.out⟩
 case round =>
  clear HY x0 x1 x2 x3 x4 y0 y1 y2 y3 y4 hz hz1
  obtain ⟨k,hk,rfl,hS⟩:=hrel
  by_cases hlt:k<5
  ·have hlt2:(k:Int)<5:=by omega
   obtain ⟨l1,l2⟩:=zld S1 S2 k hlt
   obtain ⟨u1,v1,g1⟩:=H1.out.lens k hlt
   obtain ⟨u2,v2,g2⟩:=H2.out.lens k hlt
   have m1:=hS.l.at _ _ l1
   have m2:=hS.l.at _ _ l2
   rw [g1] at m1
   rw [g2] at m2
   have K1:=H1.out k hlt
   have K2:=H2.out k hlt
   rw [g1] at K1
   rw [g2] at K2
   have HK1:=hid (K1.kept hS.low)
   have HK2:=hid (K2.kept hS.low)
   have hz:=hS.l.z
   have HS:=hid hS
   clear hS l1 l2 g1 g2 K1 K2 HE
   go_wp2_with (go_at_call 37;refine (zfE _ _ (M.byt k) (M.byt k) _ (HK1.out.kept (stA (st0 _) _)) (HK2.out.kept (stA (st0 _) _))).mono ?_;rw [beq_self_eq_true];rintro e w1 ⟨rfl,rfl⟩)
   go_roundw
   case rel=>exact ⟨k+1,by omega,by go_num,HS.out.kept (stA (st0 _) _)⟩
   case measure=>simp [intOf];omega
  ·obtain rfl:k=5:=by omega
   have q1:=zet M.main
   have q2:=zet M.aux
   have q3:=zhE M.p0.d M.p0.s M.p1.d M.p1.s M.p0.l M.p1.l
   have q4:=zgp M.t.r M.t.c M.t.on M.t.g
   have q5:=zhC M.s
   have q6:=zhD M.b.l M.b.a M.b.f M.b.g
   have q7:=zhF M.m0 M.m1
   obtain ⟨p35,p36,p37,p38,p39,p40,p41,p42,p43,p44,p61,p62,p63,p64,p65,p66,p67,p68,p69,p70,p71,p72,p73,p74⟩:=hS.a.scl
   obtain ⟨r35,r36,r37,r38,r39,r40,r41,r42,r43,r44,r61,r62,r63,r64,r65,r66,r67,r68,r69,r70,r71,r72,r73,r74⟩:=hS.b.scl
   have hz:=hS.a.z
   have hz1:=hS.b.z
   have HS:=hid hS
   clear hS HE
   go_upto_region 7 with fail
   simp only [List.append]
   go_wp2_with (first
    | (refine wpList_load_mid rfl 25 _ rfl w.heap.size 0 rfl (cpuL M.main) _ HS.out.a.mainR Tryz.underlying25 rfl zbB ?_)
    | (refine wpList_load_mid rfl 25 _ rfl (w.heap.size+1) 0 rfl (cpuL M.main) _ HS.out.b.mainR Tryz.underlying25 rfl zbB ?_)
    | (refine Bu.loadG rfl 25 _ rfl w.heap.size 15 rfl (cpuL M.aux) _ HS.out.a.auxR Tryz.underlying25 rfl zbB ?_)
    | (refine Bu.loadG rfl 25 _ rfl (w.heap.size+1) 15 rfl (cpuL M.aux) _ HS.out.b.auxR Tryz.underlying25 rfl zbB ?_)
    | (refine Bu.loadG rfl 36 _ rfl w.heap.size 45 rfl (sndL M.s) _ HS.out.a.sndR Tryz.underlying36 rfl zaj ?_)
    | (refine Bu.loadG rfl 36 _ rfl (w.heap.size+1) 45 rfl (sndL M.s) _ HS.out.b.sndR Tryz.underlying36 rfl zaj ?_))
   go_ret
   exact ⟨rfl,HS.out.low⟩
theorem zdn (M:Mach) (S:Sl) (w:World) (hs:SlAt w S M) (hok:M.ok) (hc:M.chk=0) :
 Calls Tryz.prog 19 #[.agg (machL M S).toArray] w λe w'=>∃ v,e = .returned (.tuple #[v,.int .i64 0])/\w'.ownsRow w.heap.size 5 1 v (enc M).length (bcs (enc M))/\Below w.heap.size w w':=by
 have hf:=ze6 hok hc
 have hq:Below w.heap.size w (w.alloc (.cells (machL M S).toArray 41)):=stA (st0 w) _
 have HQ:=hid hq
 have HB:=hid (Bx.new w (machL M S) 41 (b:=w.heap.size) rfl)
 have HC:=hid (zbI M S (w.alloc (.cells (machL M S).toArray 41)) hs.lens (λj hj=>by
  have:=hf.mrom;have:=hf.arom;have:=hf.ram;have:=hf.own;have:=hf.video
  rcases five hj with rfl|rfl|rfl|rfl|rfl
  ·show M.mrom.length<=_;omega
  ·show M.arom.length<=_;omega
  ·show M.ram.length<=_;omega
  ·show M.own.length<=_;omega
  ·show M.video.length<=_;omega))
 rw [hc] at HC
 have HS:=hid hs
 have HF:=hid (ziF hf)
 clear hq hs hok hc hf
 go_enter Tryz.func19,Tryz.ntmps19
 go_wp2_with (first
  | (refine wpList_load_mid rfl 41 _ rfl w.heap.size 0 rfl (machL M S) _ HB1.out.c Tryz.underlying41 rfl zad ?_)
  | (refine wpList_load_mid rfl 41 _ rfl w.heap.size 0 rfl (machL M S) _ HB.out.c Tryz.underlying41 rfl zad ?_)
  | (go_at_call 8;refine HC.out.mono ?_;rintro e w1 ⟨rfl,hb1⟩;have HB1:=hid (HB.out.kept hb1);have HL1:=hid (stp HQ.out hb1);clear hb1)
  | (go_at_call 45;refine (Sv.written M S _ (HS.out.kept HL1.out) HF.out).mono ?_;rintro e w2 ⟨v,rfl,hv,hb2⟩;obtain ⟨va,vn,vc,ev⟩:=zix hv;subst ev;have HV:=hid hv;have HL2:=hid (stp HL1.out hb2);clear hv hb2))
 go_ret2
 refine ⟨_,rfl,?_,HL2.out⟩
 refine ⟨HV.out.1,?_⟩
 rcases HV.out.2 with h|⟨gg,cap,cur,e1,e2,r⟩
 ·exact Or.inl h
 ·exact Or.inr ⟨gg,cap,cur,e1,Nat.le_trans HL1.out.size e2,r⟩
theorem SlNs.fars {B b o:Nat} {W:World} {S:Sl} {M:Mach} {vs:List Value} (h:SlNs B W S M) (hb:b<B):SlNs B (W.setCells b o vs) S M:=λj hj=>by
 rcases h j hj with h|⟨b',c,e1,e2,e3,e4⟩
 ·exact Or.inl h
 ·exact Or.inr ⟨b',c,e1,e2,e3,e4.fars (by omega) o vs⟩
theorem SlNs.mono {B B':Nat} {W:World} {S:Sl} {M:Mach} (h:SlNs B W S M) (hb:B'<=B):SlNs B' W S M:=λj hj=>by
 rcases h j hj with h|⟨b',c,e1,e2,e3,e4⟩
 ·exact Or.inl h
 ·exact Or.inr ⟨b',c,e1,e2,by omega,e4⟩
structure OfW (w : World) (L : List Value) (V : World) : Prop where
 m:Bx V w.heap.size L
 low:Below w.heap.size w V
theorem OfW.kept {w V V':World} {L:List Value} (h:OfW w L V) (hb:Below V.heap.size V V'):OfW w L V':=⟨h.m.kept hb,stp h.low hb⟩
theorem OfW.put {w V:World} {L:List Value} (h:OfW w L V) (hl:L.length=75) (M:Mach) (S:Sl):OfW w (machL M S) (V.setCells w.heap.size 0 (machL M S)):=by
 have h1:=h.m.puts 0 (machL M S) (by rw [zah];omega)
 rw [zau _ _ (by rw [zah,hl])] at h1
 exact ⟨h1,Bl.puts h.low (Nat.le_refl _) _⟩
theorem ziY {w V:World} {M:Mach} {S:Sl} {x:Int} (h:OfW w (machL M S) V) {tm:Array Value} (h2:tm[2]? = some (pt w.heap.size 0)) (h3:tm[3]? = some (.int .i64 x)):(results Tryz.f20 tm).run Tryz.prog V = .ok (.tuple #[.agg (machL M S).toArray,.int .i64 x]) V:=by
 have hl:=zck _ _ h.m.c
 simp only [results,Tryz.results20]
 simp [h2,h3]
 show (Result.andThen (Sem.run Tryz.prog (loadVar 41 ⟨w.heap.size,0,none⟩) V) _)=_
 rw [hl]
 rfl
theorem zpr (v:Value) (l:List UInt8) (w:World) (hv:sliceAt w v l)
 (hrd:∀ W,sliceAt W v l->Calls Tryz.prog 46 #[v] W λe w'=>e = .returned (.tuple #[.agg (machL zeroM nilS).toArray,.bool false])/\Below W.heap.size W w') :
 Calls Tryz.prog 20 #[v] w λe w'=>e = .returned (.tuple #[.agg (machL zeroM nilS).toArray,.int .i64 7])/\Below w.heap.size w w':=by
 obtain ⟨a,c,ev⟩:=zaF hv
 subst ev
 have HO:Hid (OfW w (machL zeroM nilS) (w.alloc (.cells (machL zeroM nilS).toArray 41))):=hid ⟨Bx.new w (machL zeroM nilS) 41 rfl,stA (st0 w) _⟩
 have HR:=hid (hrd _ (hv.kept (stA (st0 w) (.cells (machL zeroM nilS).toArray 41))))
 clear hv hrd
 go_enter Tryz.func20,Tryz.ntmps20
 go_wp2_with (first
  | (go_at_call 46;refine HR.out.mono ?_;rintro e w1 ⟨rfl,hb1⟩;have HO1:=hid (HO.out.kept hb1);clear hb1)
  | (refine wpList_store_mid rfl 41 _ _ rfl w.heap.size 0 (machL zeroM nilS).toArray rfl rfl (HO2.out.m.there 0 75 (by rw [zah];omega)) zad (zaC _ _ ziy) ?_;refine Pl.cutL (OfW w (machL zeroM nilS)) (HO2.out.put rfl _ _) ?_;intro V2 hV2;have HO3:=hid hV2;clear hV2)
  | (refine wpList_store_mid rfl 41 _ _ rfl w.heap.size 0 (machL zeroM nilS).toArray rfl rfl (HO1.out.m.there 0 75 (by rw [zah];omega)) zad (zaC _ _ ziy) ?_;refine Pl.cutL (OfW w (machL zeroM nilS)) (HO1.out.put rfl _ _) ?_;intro V1 hV1;have HO2:=hid hV1;clear hV1))
 refine bodyPost_ret (v:=.tuple #[.agg (machL zeroM nilS).toArray,.int .i64 7]) ?_ rfl ⟨rfl,HO3.out.low⟩
 exact ziY HO3.out rfl rfl
theorem zle (v:Value) (l:List UInt8) (w:World) (hv:sliceAt w v l) (M:Mach) (hz:∀ j,j<5->(M.byt j).length<=9223372036854775807) (hc:M.chk=0)
 (hrd:∀ W,sliceAt W v l->Calls Tryz.prog 46 #[v] W λe w'=>∃ S,e = .returned (.tuple #[.agg (machL M S).toArray,.bool true])/\SlNs W.heap.size w' S M/\Below W.heap.size W w') :
 Calls Tryz.prog 20 #[v] w λe w'=>∃ S,e = .returned (.tuple #[.agg (machL M S).toArray,.int .i64 0])/\SlNs w.heap.size w' S M/\Below w.heap.size w w':=by
 obtain ⟨a,c,ev⟩:=zaF hv
 subst ev
 have HO:Hid (OfW w (machL zeroM nilS) (w.alloc (.cells (machL zeroM nilS).toArray 41))):=hid ⟨Bx.new w (machL zeroM nilS) 41 rfl,stA (st0 w) _⟩
 have HR:=hid (hrd _ (hv.kept (stA (st0 w) (.cells (machL zeroM nilS).toArray 41))))
 have HCK:Hid (∀ S W,SlAt W S M->Calls Tryz.prog 8 #[.agg (machL M S).toArray] W λe w'=>e = .returned (.int .i64 M.chk)/\Below W.heap.size W w'):=hid (λS W h=>zbI M S W h.lens hz)
 rw [hc] at HCK
 clear hv hrd hc
 go_enter Tryz.func20,Tryz.ntmps20
 go_wp2_with (first
  | (go_at_call 46;refine HR.out.mono ?_;rintro e w1 ⟨S,rfl,hS,hb1⟩;have HO1:=hid (HO.out.kept hb1);have HS:=hid (hS.mono (B':=w.heap.size+1) (by simp));have HSI:=hid hS.isSl;clear hb1 hS)
  | (go_at_call 8;refine (HCK.out S _ HS2.out.at).mono ?_;rintro e w2 ⟨rfl,hb2⟩;have HO4:=hid (HO2.out.kept hb2);have HS4:=hid (HS2.out.kept hb2);clear hb2)
  | (refine wpList_load_mid rfl 41 _ rfl w.heap.size 0 rfl (machL M S) _ HO4.out.m.c Tryz.underlying41 rfl zad ?_)
  | (refine Bu.loadG rfl 41 _ rfl w.heap.size 0 rfl (machL M S) _ HO2.out.m.c Tryz.underlying41 rfl zad ?_)
  | (refine wpList_store_mid rfl 41 _ _ rfl w.heap.size 0 (machL M S).toArray rfl rfl (HO4.out.m.there 0 75 (by rw [zah];omega)) zad (zaC _ _ HSI.out) ?_;refine Pl.cutL (λV=>OfW w (machL M S) V/\SlNs (w.heap.size+1) V S M) ⟨HO4.out.put rfl _ _,HS4.out.fars (Nat.lt_succ_self _)⟩ ?_;rintro V2 ⟨hV1,hV2⟩;have HO3:=hid hV1;have HS3:=hid hV2;clear hV1 hV2)
  | (refine wpList_store_mid rfl 41 _ _ rfl w.heap.size 0 (machL M S).toArray rfl rfl (HO1.out.m.there 0 75 (by rw [zah];omega)) zad (zaC _ _ HSI.out) ?_;refine Pl.cutL (λV=>OfW w (machL M S) V/\SlNs (w.heap.size+1) V S M) ⟨HO1.out.put rfl _ _,HS.out.fars (Nat.lt_succ_self _)⟩ ?_;rintro V1 ⟨hV1,hV2⟩;have HO2:=hid hV1;have HS2:=hid hV2;clear hV1 hV2))
 refine bodyPost_ret (v:=.tuple #[.agg (machL M S).toArray,.int .i64 0]) ?_ rfl ⟨S,rfl,HS3.out.mono (Nat.le_succ _),HO3.out.low⟩
 exact ziY HO3.out rfl rfl
def sl1:List UInt8:=[0,2,121,31]
def sl2:List UInt8:=[1]
theorem s_pc:(newD sl1 sl2).main.PC=2:=by decide +kernel
theorem zlf (w:World) (t:TypeId):sliceAt (w.alloc (.cells #[.int .u8 0,.int .u8 2,.int .u8 121,.int .u8 31] t)) (.slice (some ⟨w.heap.size,0,none⟩) 4 4) sl1:=by
 refine Or.inr ⟨w.heap.size,0,4,rfl,by decide,by simp,λj c hj=>?_⟩
 have hl:=(List.getElem?_eq_some_iff.1 hj).1
 rw [Nat.zero_add,Pl.new _ _ _ _ rfl]
 have hc:j=0 \/ j=1 \/ j=2 \/ j=3:=by simp [sl1] at hl;omega
 rcases hc with rfl|rfl|rfl|rfl <;> (cases hj;rfl)
theorem zlg (w:World) (t:TypeId) {k:Nat} (hk:k=w.heap.size):sliceAt (w.alloc (.cells #[.int .u8 1] t)) (.slice (some ⟨k,0,none⟩) 1 1) sl2:=by
 subst hk
 refine Or.inr ⟨w.heap.size,0,1,rfl,by decide,by simp,λj c hj=>?_⟩
 have hl:=(List.getElem?_eq_some_iff.1 hj).1
 rw [Nat.zero_add,Pl.new _ _ _ _ rfl]
 have hc:j=0:=by simp [sl2] at hl;omega
 subst hc
 cases hj;rfl
theorem SlAt.isSl2 {W:World} {S:Sl} {M:Mach} (h:SlAt W S M):S.isSl:=λj hj=>by
 obtain ⟨a,c,e⟩:=h.lens j hj
 exact ⟨_,_,_,e⟩
structure MS (w : World) (b : Nat) (M : Mach) (S : Sl) (Y : World) : Prop where
 low:Below w.heap.size w Y
 bx:Bx Y b (machL M S)
 sl:SlAt Y S M
theorem MS.kept {w Y Y':World} {b:Nat} {M:Mach} {S:Sl} (h:MS w b M S Y) (hb:Below Y.heap.size Y Y'):MS w b M S Y':=⟨stp h.low hb,h.bx.kept hb,h.sl.kept hb⟩
theorem MS.th (Y:World) (t:TypeId):(Y.alloc (.cells (machL zeroM nilS).toArray t)).there Y.heap.size 0 75:=(Bx.new Y (machL zeroM nilS) t (b:=Y.heap.size) rfl).there 0 75 (by rw [zah];omega)
theorem MS.mk0 {w Y:World} {M':Mach} {S':Sl} (hl:Below w.heap.size w Y) (hs:SlAt Y S' M') (t:TypeId):Below Y.heap.size Y ((Y.alloc (.cells (machL zeroM nilS).toArray t)).setCells Y.heap.size 0 (machL M' S'))/\MS w Y.heap.size M' S' ((Y.alloc (.cells (machL zeroM nilS).toArray t)).setCells Y.heap.size 0 (machL M' S')):=by
 have hx:=(Bx.new Y (machL zeroM nilS) t (b:=Y.heap.size) rfl).puts 0 (machL M' S') (by rw [zah,zah];omega)
 rw [zau _ _ (by rw [zah,zah])] at hx
 have hb:Below Y.heap.size Y ((Y.alloc (.cells (machL zeroM nilS).toArray t)).setCells Y.heap.size 0 (machL M' S')):=Bl.puts (stA (st0 Y) _) (Nat.le_refl _) _
 exact ⟨hb,stp hl hb,hx,hs.kept hb⟩
theorem zmC {M:Mach} (h:M.fit):M.ok:={ h with main:=h.main }
theorem zfO (v:Value) (M:Mach) (w:World) (hv:sliceAt w v (enc M)) (hok:M.ok) (hc:M.chk=0) :
 Calls Tryz.prog 20 #[v] w λe w'=>∃ S,e = .returned (.tuple #[.agg (machL M S).toArray,.int .i64 0])/\SlNs w.heap.size w' S M/\Below w.heap.size w w':=by
 have hf:=ze6 hok hc
 have hw:=ziF hf
 have hrd:rdL svK (enc M)=some (svX M,[]):=by
  have:=zor hw []
  rwa [List.append_nil] at this
 refine zle v (enc M) w hv M (λj hj=>?_) hc (λW h=>zhB v (enc M) W h (by have:=hw.2;omega) M hrd)
 have:=hf.mrom;have:=hf.arom;have:=hf.ram;have:=hf.own;have:=hf.video
 rcases five hj with rfl|rfl|rfl|rfl|rfl
 ·show M.mrom.length<=_;omega
 ·show M.arom.length<=_;omega
 ·show M.ram.length<=_;omega
 ·show M.own.length<=_;omega
 ·show M.video.length<=_;omega
theorem zg1 {M:Mach} (h:M.fit) (hf:M.b.f<=20000):M.chk=0:=zgl h hf
theorem Sv.saved (w:World):Calls Tryz.prog 18 #[] w λe w'=>e = .returned (.bool true)/\Below w.heap.size w w':=by
 have hb0:Below w.heap.size w ((w.alloc (.cells #[.int .u8 0,.int .u8 2,.int .u8 121,.int .u8 31] 5)).alloc (.cells #[.int .u8 1] 5)):=stA (stA (st0 w) _) _
 have HB0:=hid hb0
 have HN:=hid (ziT sl1 sl2 (.slice (some ⟨w.heap.size,0,none⟩) 4 4) (.slice (some ⟨w.heap.size+1,0,none⟩) 1 1) ((w.alloc (.cells #[.int .u8 0,.int .u8 2,.int .u8 121,.int .u8 31] 5)).alloc (.cells #[.int .u8 1] 5)) ((zlf w _).kept (stA (st0 _) _)) (zlg _ _ (by simp)) (by decide) (by decide))
 have hpc:=s_pc
 have HPF:Hid ((newD sl1 sl2).b.f<=20000):=hid (by show (0:Int)<=20000;decide)
 generalize newD sl1 sl2=D at HN hpc HPF
 clear hb0
 go_enter Tryz.func18,Tryz.ntmps18
 go_wp2_with (first
  | (go_at_call 25;refine HN.out.mono ?_;rintro e w1 ⟨S1,rfl,hs1,hf1,_,hb1⟩;have HS1:=hid hs1;have HF1:=hid hf1;have HL1:=hid (stp HB0.out hb1);clear hs1 hf1 hb1)
  | (refine wpList_store_mid rfl 41 _ _ rfl w1.heap.size 0 (machL D S1).toArray rfl rfl (MS.th w1 _) zad (zaC _ _ HS1.out.isSl2) ?_;refine Pl.cutL (MS w w1.heap.size D S1) (MS.mk0 HL1.out HS1.out _).2 ?_;intro Y1 hY1;have HY1:=hid hY1;clear hY1)
  | (refine wpList_load_mid rfl 41 _ rfl w1.heap.size 0 rfl (machL D S1) _ HY1.out.bx.c Tryz.underlying41 rfl zad ?_)
  | (go_at_call 19;refine (zdn D S1 _ HY1.out.sl (zmC HF1.out) (zg1 HF1.out HPF.out)).mono ?_;rintro e w2 ⟨v,rfl,hv,hb2⟩;obtain ⟨va,vc,ev⟩:=zaF (zaL hv);subst ev;have hen:=(ziE HF1.out).1;obtain ⟨en,hen2⟩:∃ en,en=(enc D).length:=⟨_,rfl⟩;have HV:=hid (zaL hv);have HE:=hid hen2;rw [<- hen2];have hen3:(100:Int)<en:=(by omega);have HY2:=hid (HY1.out.kept hb2);clear hv hb2 hen hen2)
  | (go_at_call 20;refine (zfO _ D _ (by rw [HE.out];exact HV.out) (zmC HF1.out) (zg1 HF1.out HPF.out)).mono ?_;rintro e w3 ⟨S2,rfl,hs3,hb3⟩;have HS3:=hid hs3.at;have HY3:=hid (HY2.out.kept hb3);clear hs3 hb3)
  | (refine wpList_store_mid rfl 41 _ _ rfl w3.heap.size 0 (machL D S2).toArray rfl rfl (MS.th w3 _) zad (zaC _ _ HS3.out.isSl2) ?_;refine Pl.cutL (λV=>MS w w1.heap.size D S1 V/\MS w w3.heap.size D S2 V) ⟨HY3.out.kept (MS.mk0 HY3.out.low HS3.out _).1,(MS.mk0 HY3.out.low HS3.out _).2⟩ ?_;rintro Y4 ⟨h1,h2⟩;have HY4:=hid h1;have HX4:=hid h2;clear h1 h2)
  | (refine Bu.loadG rfl 41 _ rfl w1.heap.size 0 rfl (machL D S1) _ HY4.out.bx.c Tryz.underlying41 rfl zad ?_)
  | (refine Bu.loadG rfl 41 _ rfl w3.heap.size 0 rfl (machL D S2) _ HX4.out.bx.c Tryz.underlying41 rfl zad ?_)
  | (go_at_call 12;refine (zdm D S1 S2 _ HY4.out.sl HX4.out.sl).mono ?_;rintro e w5 ⟨rfl,hb5⟩;have hx5:=HX4.out.kept hb5;have c8:w5.cell? ⟨w3.heap.size,8,none⟩=some (.int .u16 2):=(by rw [<- hpc];exact hx5.bx.at 8 _ rfl);have cz:=hx5.bx.z;have HL5:=hid hx5.low;clear hb5 hx5))
 go_ret
 exact ⟨rfl,HL5.out⟩
theorem zaB {w:World} (h:shapesAt w) (o:Obj):shapesAt (w.alloc o):=h.kept ((Below.refl _ _).alloc (Nat.le_refl _) _)
theorem zeu (k:Nat) (hk:k<32) (h30:k≠30) (w:World) (hs:shapesAt w) :
 Calls Tryz.prog 231 #[.int .i64 k] w λe w'=>e = .returned (.tuple #[.int .i64 (K.cyc k),.int .i64 (lenOf (O.mask k)),.int .i64 0])/\Below w.heap.size w w':=by
 have HS:=hid hs
 clear hs
 go_enter Tryz.func231,Tryz.ntmps231
 go_wp2_with (go_at_call 209;refine (zaW k hk h30 _ HS.out).mono ?_;rintro e w1 ⟨rfl,hb1⟩)
 go_region_held3 (λw'=>w'.cell? ⟨w1.heap.size,0,none⟩=some (.string (O.nameS k))/\w'.cell? ⟨w1.heap.size,1,none⟩=some (.int .i64 (K.cyc k))/\w'.cell? ⟨w1.heap.size,2,none⟩=some (.int .i64 (O.mask k)))
  (first
    | go_keep
    | (go_split_ands
       refine ⟨?_,?_,?_⟩
       ·(rw [hb2.cell (by simp)];assumption)
       ·(rw [hb2.cell (by simp)];assumption)
       ·(rw [hb2.cell (by simp)];assumption)))
  ((go_at_call 260;refine (zaS _ _ k hk _).mono ?_;rintro e w2 ⟨rfl,hb2⟩))
 go_wp2
 go_ret3
 exact ⟨rfl,stp (stA hb1 _).drew hb2⟩
end Go.Proofs.YtbennamieealbaaGreatDoor
