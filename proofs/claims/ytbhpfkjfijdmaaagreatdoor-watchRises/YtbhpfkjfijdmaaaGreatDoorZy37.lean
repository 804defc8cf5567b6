/-
  Parts of a proof, joined.
-/
import Derived.Test.YtbhpfkjfijdmaaaGreatDoorZy25
import Derived.Test.YtbhpfkjfijdmaaaGreatDoorZy36
import Derived.Deep.DeepCutAuto
import Derived.Test.YtbhpfkjfijdmaaaGreatDoorZy23
import Derived.Test.YtbhpfkjfijdmaaaGreatDoorZy33
import Derived.Test.YtbhpfkjfijdmaaaGreatDoorZy32
import Derived.Deep.AppendLies
import Derived.Deep.RegionHeld3
import Derived.Test.YtbhpfkjfijdmaaaGreatDoorZy13
namespace Go.Proofs.YtbhpfkjfijdmaaaGreatDoor
open Go.ChangeShapes Go.WideShapes Go.ChangeAt Go.RowKit
set_option linter.unusedVariables false
set_option maxRecDepth 100000
set_option maxHeartbeats 1600000
theorem Bu.loadG {P:Program} {ops:Array Oper} {rest:List Oper} {op:Oper} {a:Act} {w:World} {Q:Exit->Act->World->Prop} (hw:Region.wanted op (yielded ops a.tmps)=true) (ty:TypeId) (x:Operand) (ho:op.op = .load ty x)
 (b o:Nat) (hx:a.eval x = .pointer (some ⟨b,o,none⟩)) (cs:List Value) (d:TypeDesc) (hc:w.rangeAt b o cs)
 (hu:P.underlying ty=some d) (hd:d.isRow=true) (hi:(P.info? ty).map (·.size)=some cs.length)
 (h:wpList P ops Q rest (a.put op.dst (.agg cs.toArray)) w):wpList P ops Q (op :: rest) a w :=
 wpList_step fun K hK=>by rw [if_pos hw];exact wp_load_mid ty x ho b o hx cs d hc hu hd hi (hK _ _ h)
def five2 (S1 S2:Sl):List Value:=[S1.mr,S2.mr,S1.ar,S2.ar,S1.ra,S2.ra,S1.ow,S2.ow,S1.vi,S2.vi]
theorem five2_at (S1 S2:Sl) (k:Nat) (hk:k < 5):(five2 S1 S2)[k * 2]? = some (S1.get k)/\(five2 S1 S2)[k * 2+1]? = some (S2.get k):=by
 rcases five hk with rfl | rfl | rfl | rfl | rfl <;> exact ⟨rfl,rfl⟩
structure SM (w : World) (M : Mach) (S1 S2 : Sl) (Y : World) : Prop where
 low:Below w.heap.size w Y
 a:Bx Y w.heap.size (machL M S1)
 b:Bx Y (w.heap.size+1) (machL M S2)
 l:Bx Y (w.heap.size+2) (five2 S1 S2)
theorem SM.kept {w Y Y':World} {M:Mach} {S1 S2:Sl} (h:SM w M S1 S2 Y) (hb:Below Y.heap.size Y Y'):SM w M S1 S2 Y':=⟨stp h.low hb,h.a.kept hb,h.b.kept hb,h.l.kept hb⟩
theorem Bx.mainR {Y:World} {b:Nat} {M:Mach} {S:Sl} (h:Bx Y b (machL M S)):Y.rangeAt b 0 (cpuL M.main):=fun i v hi=>by
 refine h.at (0+i) v ?_
 rw [Nat.zero_add]
 unfold machL
 rw [List.getElem?_append_left (List.getElem?_eq_some_iff.1 hi).1]
 exact hi
theorem Bx.auxR {Y:World} {b:Nat} {M:Mach} {S:Sl} (h:Bx Y b (machL M S)):Y.rangeAt b 15 (cpuL M.aux):=fun i v hi=>by
 refine h.at (15+i) v ?_
 unfold machL
 have hl:(cpuL M.main).length=15:=rfl
 rw [List.getElem?_append_right (by omega),hl,show 15+i - 15=i by omega,List.getElem?_append_left (List.getElem?_eq_some_iff.1 hi).1]
 exact hi
theorem Bx.scl {Y:World} {b:Nat} {M:Mach} {S:Sl} (h:Bx Y b (machL M S)):Y.cell? ⟨b,35,none⟩=some (.int .u8 M.p0.d)/\Y.cell? ⟨b,36,none⟩=some (.bool M.p0.l)/\Y.cell? ⟨b,37,none⟩=some (.int .u8 M.p0.s)/\Y.cell? ⟨b,38,none⟩=some (.int .u8 M.p1.d)/\Y.cell? ⟨b,39,none⟩=some (.bool M.p1.l)/\Y.cell? ⟨b,40,none⟩=some (.int .u8 M.p1.s)/\Y.cell? ⟨b,41,none⟩=some (.int .u16 M.t.r)/\Y.cell? ⟨b,42,none⟩=some (.int .u16 M.t.c)/\Y.cell? ⟨b,43,none⟩=some (.bool M.t.on)/\Y.cell? ⟨b,44,none⟩=some (.bool M.t.g)/\Y.cell? ⟨b,61,none⟩=some (.int .i64 M.b.l)/\Y.cell? ⟨b,62,none⟩=some (.int .i64 M.b.a)/\Y.cell? ⟨b,63,none⟩=some (.bool M.b.g)/\Y.cell? ⟨b,64,none⟩=some (.int .i64 M.b.f)/\Y.cell? ⟨b,65,none⟩=some (.int .u16 M.fr)/\Y.cell? ⟨b,66,none⟩=some (.int .u16 M.to)/\Y.cell? ⟨b,67,none⟩=some (.bool M.granted)/\Y.cell? ⟨b,68,none⟩=some (.bool M.held)/\Y.cell? ⟨b,69,none⟩=some (.int .u8 M.m0)/\Y.cell? ⟨b,70,none⟩=some (.int .u8 M.m1)/\Y.cell? ⟨b,71,none⟩=some (.bool M.rung)/\Y.cell? ⟨b,72,none⟩=some (.int .i64 M.clock)/\Y.cell? ⟨b,73,none⟩=some (.int .i64 M.mready)/\Y.cell? ⟨b,74,none⟩=some (.int .i64 M.aready) :=
 ⟨h.at 35 _ rfl,h.at 36 _ rfl,h.at 37 _ rfl,h.at 38 _ rfl,h.at 39 _ rfl,h.at 40 _ rfl,h.at 41 _ rfl,h.at 42 _ rfl,h.at 43 _ rfl,h.at 44 _ rfl,h.at 61 _ rfl,h.at 62 _ rfl,h.at 63 _ rfl,h.at 64 _ rfl,h.at 65 _ rfl,h.at 66 _ rfl,h.at 67 _ rfl,h.at 68 _ rfl,h.at 69 _ rfl,h.at 70 _ rfl,h.at 71 _ rfl,h.at 72 _ rfl,h.at 73 _ rfl,h.at 74 _ rfl⟩
theorem SM.start (w:World) (M:Mach) (S1 S2:Sl) (o1 o2 o3:TypeId):SM w M S1 S2 (((w.alloc (.cells (machL M S1).toArray o1)).alloc (.cells (machL M S2).toArray o2)).alloc (.cells (five2 S1 S2).toArray o3)) :=
 ⟨stA (stA (stA (st0 w) _) _) _,((Bx.new w (machL M S1) o1 rfl).over _).over _,(Bx.new (w.alloc _) (machL M S2) o2 (by simp)).over _,Bx.new _ (five2 S1 S2) o3 (by simp)⟩
theorem Bu.same_any (M:Mach) (S1 S2:Sl) (w:World) (h1:SlAt w S1 M) (h2:SlAt w S2 M) :
 Calls Tryz.prog 14 #[.agg (machL M S1).toArray,.agg (machL M S2).toArray] w fun e w'=>e = .returned (.bool true)/\Below w.heap.size w w':=by
 have hA:=(Bx.new w (machL M S1) 41 (b:=w.heap.size) rfl).over (.cells (machL M S2).toArray 41)
 have hB:=Bx.new (w.alloc (.cells (machL M S1).toArray 41)) (machL M S2) 41 (b:=w.heap.size+1) (by simp)
 obtain ⟨a0,c0,e0⟩:=h1.lens 0 (by omega)
 obtain ⟨a1,c1,e1⟩:=h1.lens 1 (by omega)
 obtain ⟨a2,c2,e2⟩:=h1.lens 2 (by omega)
 obtain ⟨a3,c3,e3⟩:=h1.lens 3 (by omega)
 obtain ⟨a4,c4,e4⟩:=h1.lens 4 (by omega)
 obtain ⟨b0,d0,f0⟩:=h2.lens 0 (by omega)
 obtain ⟨b1,d1,f1⟩:=h2.lens 1 (by omega)
 obtain ⟨b2,d2,f2⟩:=h2.lens 2 (by omega)
 obtain ⟨b3,d3,f3⟩:=h2.lens 3 (by omega)
 obtain ⟨b4,d4,f4⟩:=h2.lens 4 (by omega)
 obtain ⟨x0,x1,x2,x3,x4⟩:=mcells5 hA e0 e1 e2 e3 e4
 obtain ⟨y0,y1,y2,y3,y4⟩:=mcells5 hB f0 f1 f2 f3 f4
 have hz:=hA.z
 have hz1:=hB.z
 have HE:Hid (five2 S1 S2=[.slice a0 M.mrom.length c0,.slice b0 M.mrom.length d0,.slice a1 M.arom.length c1,.slice b1 M.arom.length d1,.slice a2 M.ram.length c2,.slice b2 M.ram.length d2,.slice a3 M.own.length c3,.slice b3 M.own.length d3,.slice a4 M.video.length c4,.slice b4 M.video.length d4]):=hid (by
  unfold five2
  have e0':S1.mr=_:=e0
  have e1':S1.ar=_:=e1
  have e2':S1.ra=_:=e2
  have e3':S1.ow=_:=e3
  have e4':S1.vi=_:=e4
  have f0':S2.mr=_:=f0
  have f1':S2.ar=_:=f1
  have f2':S2.ra=_:=f2
  have f3':S2.ow=_:=f3
  have f4':S2.vi=_:=f4
  rw [e0',e1',e2',e3',e4',f0',f1',f2',f3',f4']
  rfl)
 have H1:=hid h1
 have H2:=hid h2
 clear hA hB e0 e1 e2 e3 e4 f0 f1 f2 f3 f4 h1 h2
 go_enter Tryz.func14,Tryz.ntmps14
 go_wp2
 refine Pl.cutW (SM w M S1 S2) (by have hs:=SM.start w M S1 S2 41 41 99;rw [HE.out] at hs;exact hs) ?_
 intro Y hY
 have HY:=hid hY
 clear hY
 go_loopw [34] (fun i wr=>∃ k:Nat,k<=5/\i = .int .i64 k/\SM w M S1 S2 wr) (fun i _=>5 - (intOf i).toNat)
 case atStart=>exact ⟨0,by omega,rfl,HY.out⟩
 case round =>
  clear HY x0 x1 x2 x3 x4 y0 y1 y2 y3 y4 hz hz1
  obtain ⟨k,hk,rfl,hS⟩:=hrel
  by_cases hlt:k < 5
  ·have hlt2:(k:Int) < 5:=by omega
   obtain ⟨l1,l2⟩:=five2_at S1 S2 k hlt
   obtain ⟨u1,v1,g1⟩:=H1.out.lens k hlt
   obtain ⟨u2,v2,g2⟩:=H2.out.lens k hlt
   have m1:=hS.l.at _ _ l1
   have m2:=hS.l.at _ _ l2
   rw [g1] at m1
   rw [g2] at m2
   have K1:=H1.out k hlt
   have K2:=H2.out k hlt
   rw [g1] at K1
   rw [g2] at K2
   have HK1:=hid (K1.kept hS.low)
   have HK2:=hid (K2.kept hS.low)
   have hz:=hS.l.z
   have HS:=hid hS
   clear hS l1 l2 g1 g2 K1 K2 HE
   go_wp2_with (go_at_call 32;refine (equal_any _ _ (M.byt k) (M.byt k) _ (HK1.out.kept (stA (st0 _) _)) (HK2.out.kept (stA (st0 _) _))).mono ?_;rw [beq_self_eq_true];rintro e w1 ⟨rfl,rfl⟩)
   go_roundw
   case rel=>exact ⟨k+1,by omega,by go_num,HS.out.kept (stA (st0 _) _)⟩
   case measure=>simp [intOf];omega
  ·obtain rfl:k=5:=by omega
   have q1:=Bu.eq_cpuL M.main
   have q2:=Bu.eq_cpuL M.aux
   have q3:=Bu.eq_pads M.p0.d M.p0.s M.p1.d M.p1.s M.p0.l M.p1.l
   have q4:=Bu.eq_timer M.t.r M.t.c M.t.on M.t.g
   have q5:=Bu.eq_sndL M.s
   have q6:=Bu.eq_beam M.b.l M.b.a M.b.f M.b.g
   have q7:=Bu.eq_mail M.m0 M.m1
   obtain ⟨p35,p36,p37,p38,p39,p40,p41,p42,p43,p44,p61,p62,p63,p64,p65,p66,p67,p68,p69,p70,p71,p72,p73,p74⟩:=hS.a.scl
   obtain ⟨r35,r36,r37,r38,r39,r40,r41,r42,r43,r44,r61,r62,r63,r64,r65,r66,r67,r68,r69,r70,r71,r72,r73,r74⟩:=hS.b.scl
   have hz:=hS.a.z
   have hz1:=hS.b.z
   have HS:=hid hS
   clear hS HE
   go_upto_region 7 with fail
   simp only [List.append]
   go_wp2_with (first
    | (refine wpList_load_mid rfl 25 _ rfl w.heap.size 0 rfl (cpuL M.main) _ HS.out.a.mainR Tryz.underlying25 rfl info_cpu ?_)
    | (refine wpList_load_mid rfl 25 _ rfl (w.heap.size+1) 0 rfl (cpuL M.main) _ HS.out.b.mainR Tryz.underlying25 rfl info_cpu ?_)
    | (refine Bu.loadG rfl 25 _ rfl w.heap.size 15 rfl (cpuL M.aux) _ HS.out.a.auxR Tryz.underlying25 rfl info_cpu ?_)
    | (refine Bu.loadG rfl 25 _ rfl (w.heap.size+1) 15 rfl (cpuL M.aux) _ HS.out.b.auxR Tryz.underlying25 rfl info_cpu ?_)
    | (refine Bu.loadG rfl 36 _ rfl w.heap.size 45 rfl (sndL M.s) _ HS.out.a.sndR Tryz.underlying36 rfl info_sound ?_)
    | (refine Bu.loadG rfl 36 _ rfl (w.heap.size+1) 45 rfl (sndL M.s) _ HS.out.b.sndR Tryz.underlying36 rfl info_sound ?_))
   go_ret
   exact ⟨rfl,HS.out.low⟩
abbrev nil3:List Value:=[.slice none 0 0,.slice none 0 0,.slice none 0 0]
structure R3 (w1 : World) (X : Mach) (S' : Sl) (L : List Value) (Y : World) : Prop where
 old:Below w1.heap.size w1 Y
 x:Bx Y w1.heap.size (machL X S')
 s:Bx Y (w1.heap.size+1) L
section
variable {w1 Y Y' : World} {X : Mach} {S' : Sl} {L : List Value}
theorem R3.mk1 (w1:World) (X:Mach) (S':Sl):R3 w1 X S' nil3 (((w1.alloc (.cells (machL zeroM nilS).toArray 41)).alloc (.cells #[.slice none 0 0,.slice none 0 0,.slice none 0 0] 50)).setCells w1.heap.size 0 (machL X S')):=by
 have h1:=((Bx.new w1 (machL zeroM nilS) 41 (b:=w1.heap.size) rfl).over (.cells #[.slice none 0 0,.slice none 0 0,.slice none 0 0] 50)).puts 0 (machL X S') (by rw [machL_len,machL_len];omega)
 rw [putL_whole _ _ (by rw [machL_len,machL_len])] at h1
 exact ⟨below_sets' (stA (stA (st0 w1) _) _) (Nat.le_refl _) _ _,h1,DW.bb (Bx.new (w1.alloc (.cells (machL zeroM nilS).toArray 41)) nil3 50 (b:=w1.heap.size+1) (by simp)) (by omega)⟩
theorem R3.put {x y z x' y' z':Value} (h:R3 w1 X S' [x,y,z] Y):R3 w1 X S' [x',y',z'] (Y.setCells (w1.heap.size+1) 0 [x',y',z']):=by
 have h1:=h.s.puts 0 [x',y',z'] (by simp)
 rw [putL_whole _ _ (by simp)] at h1
 exact ⟨below_sets' h.old (by omega) _ _,DW.bb h.x (by omega),h1⟩
theorem R3.kept (h:R3 w1 X S' L Y) (hb:Below Y.heap.size Y Y'):R3 w1 X S' L Y':=⟨stp h.old hb,h.x.kept hb,h.s.kept hb⟩
end
theorem R3.th1 (w1:World):((w1.alloc (.cells (machL zeroM nilS).toArray 41)).alloc (.cells #[.slice none 0 0,.slice none 0 0,.slice none 0 0] 50)).there w1.heap.size 0 75:=((Bx.new w1 (machL zeroM nilS) 41 (b:=w1.heap.size) rfl).over _).there 0 75 (by rw [machL_len];omega)
theorem one3 (a1 a2 a3:Option Addr) (n1 n2 n3 c1 c2 c3:Nat):(#[.slice a1 n1 c1,.slice a2 n2 c2,.slice a3 n3 c3]:Array Value).all (·.oneCell')=true:=by simp [Value.oneCell']
theorem Lk.long_any (M:Mach) (S:Sl) (n:Int) (w:World):Calls Tryz.prog 9 #[.agg (machL M S).toArray,.int .i64 n] w fun e w'=>e = .returned (.bool (decide (19000 < M.b.f)))/\Below w.heap.size w w':=by
 have hB:=Bx.new w (machL M S) 41 (b:=w.heap.size) rfl
 have x64:=hB.at 64 (.int .i64 M.b.f) rfl
 clear hB
 go_enter Tryz.func9,Tryz.ntmps9
 go_wp2
 go_ret
 exact ⟨rfl,stA (st0 w) _⟩
theorem run_err0 {M:Mach} {l:List Inp} {n:Int} (h1:M.chk=0) (h2:chkIn l M.clock=0) (h:0<=n/\n<=20000/\M.clock+n<=200000):runErr M l n=0:=by
 unfold runErr
 rw [if_pos h1,if_pos h2,if_pos h]
section
variable {l a f : Int}
end
theorem row_cells {w:World} {B z n:Nat} {t:TypeId} {v:Value} {xs:List Value} (h:w.ownsRow B t z v n xs) (h0:0 < n):∃ g cap,v = .slice (some ⟨g,0,none⟩) n cap/\n<=cap/\g < w.heap.size /\ ∀ j x,xs[j]? = some x->w.cell? ⟨g,j,none⟩=some x:=by
 rcases h.2 with ⟨e0,e1⟩ | ⟨g,cap,cur,e0,hb,hg,hn,hm,hs,ht⟩
 ·omega
 ·refine ⟨g,cap,e0,hn,(Array.getElem?_eq_some_iff.1 hg).1,fun j x hj=>?_⟩
  rw [<- ht] at hj
  have hjl:j < n * z:=by
   have:=(List.getElem?_eq_some_iff.1 hj).1
   rw [List.length_take] at this;omega
  rw [List.getElem?_take_of_lt hjl,Array.getElem?_toList] at hj
  unfold World.cell?
  simp [hg,hj]
def RwAt (w:World) (v:Value) (n z:Nat) (xs:List Value):Prop:=xs.length=n * z/\((n=0 /\ ∃ a c,v = .slice a 0 c) \/ ∃ g o cap,v = .slice (some ⟨g,o,none⟩) n cap/\n<=cap/\g < w.heap.size /\ ∀ j x,xs[j]? = some x->w.cell? ⟨g,o+j,none⟩=some x)
theorem row_len2 {w:World} {B z n:Nat} {t:TypeId} {v:Value} {xs:List Value} (h:w.ownsRow B t z v n xs):∃ a c,v = .slice a n c:=by
 rcases h.2 with ⟨e0,e1⟩ | ⟨g,cap,cur,e0,_⟩
 ·exact ⟨none,0,by rw [e0,e1]⟩
 ·exact ⟨_,_,e0⟩
section
variable {w w1 : World} {v : Value} {n z B : Nat} {xs : List Value} {t : TypeId}
theorem RwAt.kept (h:RwAt w v n z xs) (hb:Below w.heap.size w w1):RwAt w1 v n z xs:=by
 obtain ⟨h0,h | ⟨g,o,cap,h1,h2,h3,h4⟩⟩:=h
 ·exact ⟨h0,Or.inl h⟩
 ·exact ⟨h0,Or.inr ⟨g,o,cap,h1,h2,Nat.lt_of_lt_of_le h3 hb.size,fun j x hj=>(hb.cell (p:=⟨g,o+j,none⟩) h3).trans (h4 j x hj)⟩⟩
theorem RwAt.len (h:RwAt w v n z xs):∃ a c,v = .slice a n c:=by
 obtain ⟨_,⟨h0,a,c,h1⟩ | ⟨g,o,cap,h1,_⟩⟩:=h
 ·exact ⟨a,c,by rw [h0];exact h1⟩
 ·exact ⟨_,_,h1⟩
theorem row_own (h:w.ownsRow B t z v n xs):RwAt w v n z xs:=by
 refine ⟨h.1,?_⟩
 by_cases h0:n=0
 ·obtain ⟨a,c,e⟩:=row_len2 h
  exact Or.inl ⟨h0,a,c,by rw [<- h0];exact e⟩
 ·obtain ⟨g,cap,e,h1,h2,h3⟩:=row_cells h (by omega)
  exact Or.inr ⟨g,0,cap,e,h1,h2,fun j x hj=>by rw [Nat.zero_add];exact h3 j x hj⟩
theorem appNoRow {ts:TypeId} (hts:Tryz.prog.underlying ts=some (.slice t)) (i:TypeInfo) (hi:Tryz.prog.info? t=some i) (ty:TypeId) (hown:w.ownsRow B t z v n xs) (a:Option Addr) (c:Nat) :
 (Builtin.append_ #[ts,ts] ty #[v,.slice a 0 c]).run Tryz.prog w = .ok v w:=by
 have hu:=run_underlying (P:=Tryz.prog) hts
 have hf:(Builtin.firstCells i.size 0 (.slice a 0 c)).run Tryz.prog w = .ok #[] w:=by
  cases a with
  | none=>exact run_firstCells_none w i.size 0 0 c
  | some a=>exact run_firstCells_some w i.size 0 a 0 c [] (by simp) (fun j v hj=>by simp at hj)
 rcases hown.2 with ⟨rfl,rfl⟩ | ⟨g,cap,cur,rfl,_,_,hnc,_⟩
 ·simp [Builtin.append_,hu,sizeOf,typeInfo,hi,Builtin.lenOf,hf]
 ·simp [Builtin.append_,hu,sizeOf,typeInfo,hi,Builtin.lenOf,hf,hnc,storeCells]
end
/-! ### lines -/
/-! ### writes -/
/-! ### bytes -/
theorem Lk.neq_of {P:Program} {w:World} {t:TypeId} {xs ys:Array Value} (h:(binOp .eql t (.agg xs) (.agg ys)).run P w = .ok (.bool true) w):(binOp .neq t (.agg xs) (.agg ys)).run P w = .ok (.bool false) w:=by
 rw [run_eql_struct] at h
 rw [run_neq_struct]
 revert h
 generalize Sem.run P (Op.equalIn 10000 t _ _) w=r
 intro h
 cases r with
 | ok b w' =>
  have e:Result.ok (Value.bool b) w' = .ok (.bool true) w:=h
  injection e with e1 e2
  injection e1 with e3
  subst e3 e2
  rfl
 | _=>cases h
theorem RwAt.range {w:World} {v:Value} {n z:Nat} {xs:List Value} (h:RwAt w v n z xs) {i:Nat} (hi:i < n) {row:List Value} (hr:∀ (j:Nat) (u:Value),row[j]? = some u->xs[i * z+j]? = some u):∃ g o cap,v = .slice (some ⟨g,o,none⟩) n cap/\g < w.heap.size/\w.rangeAt g (o+i * z) row:=by
 obtain ⟨_,⟨h0,_⟩ | ⟨g,o,cap,h1,h2,h3,h4⟩⟩:=h
 ·omega
 ·exact ⟨g,o,cap,h1,h3,fun j u hj=>by rw [Nat.add_assoc];exact h4 _ _ (hr j u hj)⟩
structure ShAt (w : World) (v1 v2 v3 : Value) (ln : List Lin) (sm : List UInt8) (ws : List Wt) : Prop where
 ln:RwAt w v1 ln.length 18 (lcs ln)
 sm:sliceAt w v2 sm
 ws:RwAt w v3 ws.length 3 (wcs ws)
theorem ShAt.kept {w w1:World} {v1 v2 v3:Value} {ln:List Lin} {sm:List UInt8} {ws:List Wt} (h:ShAt w v1 v2 v3 ln sm ws) (hb:Below w.heap.size w w1):ShAt w1 v1 v2 v3 ln sm ws:=⟨h.ln.kept hb,h.sm.kept hb,h.ws.kept hb⟩
end Go.Proofs.YtbhpfkjfijdmaaaGreatDoor
namespace Go.Proofs.YtbhpfkjfijdmaaaGreatDoor
open Go.ChangeShapes Go.WideShapes Go.ChangeAt Go.RowKit
open Go
set_option linter.unusedVariables false
set_option maxRecDepth 100000
set_option maxHeartbeats 1600000
def sv (a:Act) (d:Nat):Value:=a.eval (.tmp d)
theorem sv_put {a:Act} {d:Nat} {v:Value} (h:d < a.tmps.size):sv (a.put (some d) v) d=v:=by
 unfold sv Act.eval Act.put
 simp [h]
theorem sv_ne {a:Act} {d k:Nat} {v:Value} (h:k ≠ d):sv (a.put (some d) v) k=sv a k:=by
 unfold sv
 exact Act.eval_put (fun d' hd e=>by cases hd;cases e;exact h rfl)
theorem size_put (a:Act) (d:Option Nat) (v:Value):(a.put d v).tmps.size=a.tmps.size:=by
 unfold Act.put
 cases d <;> simp
structure Cat where
 sb:Nat
 tb:Nat
 a1:Option Addr
 c1:Nat
 a2:Option Addr
 c2:Nat
 a3:Option Addr
 c3:Nat
 b1:Option Addr
 d1:Nat
 b2:Option Addr
 d2:Nat
 b3:Option Addr
 d3:Nat
 ln:List Lin
 sm:List UInt8
 ws:List Wt
 ln':List Lin
 sm':List UInt8
 ws':List Wt
abbrev Cat.p1 (D:Cat):Value:=.slice D.a1 D.ln.length D.c1
abbrev Cat.p2 (D:Cat):Value:=.slice D.a2 D.sm.length D.c2
abbrev Cat.p3 (D:Cat):Value:=.slice D.a3 D.ws.length D.c3
abbrev Cat.q1 (D:Cat):Value:=.slice D.b1 D.ln'.length D.d1
abbrev Cat.q2 (D:Cat):Value:=.slice D.b2 D.sm'.length D.d2
abbrev Cat.q3 (D:Cat):Value:=.slice D.b3 D.ws'.length D.d3
structure Cat.at (D : Cat) (w : World) : Prop where
 s:Bx w D.sb [D.p1,D.p2,D.p3]
 t:Bx w D.tb [D.q1,D.q2,D.q3]
 x:ShAt w D.p1 D.p2 D.p3 D.ln D.sm D.ws
 y:ShAt w D.q1 D.q2 D.q3 D.ln' D.sm' D.ws'
 l1:D.ln.length+D.ln'.length<=100000
 l2:D.sm.length+D.sm'.length<=100000
 l3:D.ws.length+D.ws'.length<=100000
theorem Cat.at.kept {D:Cat} {w w1:World} (h:D.at w) (hb:Below w.heap.size w w1):D.at w1:=⟨h.s.kept hb,h.t.kept hb,h.x.kept hb,h.y.kept hb,h.l1,h.l2,h.l3⟩
def twoAt (w:World) (u x y:Value):Prop:=∃ b,u = .slice (some ⟨b,0,none⟩) 2 2/\w.cell? ⟨b,0,none⟩=some x/\w.cell? ⟨b,1,none⟩=some y/\b < w.heap.size
structure Own3 (B : Nat) (w : World) (p q r : Value) (ln : List Lin) (sm : List UInt8) (ws : List Wt) : Prop where
 ln:w.ownsRow B 58 18 p ln.length (lcs ln)
 sm:w.ownsRow B 5 1 q sm.length (bcs sm)
 ws:w.ownsRow B 62 3 r ws.length (wcs ws)
def Cat.phi (D:Cat) (B:Nat) (i:Nat) (u:Value) (w:World):Prop :=
 match i with
 | 0=>u=pt D.sb 0
 | 1=>u=D.p1
 | 2=>u=pt D.tb 0
 | 3=>u=D.q1
 | 4=>twoAt w u D.p1 D.q1
 | 5=>w.ownsRow B 58 18 u (D.ln.length+D.ln'.length) (lcs D.ln++lcs D.ln')
 | 6=>u=pt D.sb 1
 | 7=>u=D.p2
 | 8=>u=pt D.tb 1
 | 9=>u=D.q2
 | 10=>twoAt w u D.p2 D.q2
 | 11=>w.ownsRow B 5 1 u (D.sm.length+D.sm'.length) (bcs D.sm++bcs D.sm')
 | 12=>u=pt D.sb 2
 | 13=>u=D.p3
 | 14=>u=pt D.tb 2
 | 15=>u=D.q3
 | 16=>twoAt w u D.p3 D.q3
 | 17=>w.ownsRow B 62 3 u (D.ws.length+D.ws'.length) (wcs D.ws++wcs D.ws')
 | 18=>∃ p q r,u = .agg #[p,q,r]/\Own3 B w p q r (D.ln++D.ln') (D.sm++D.sm') (D.ws++D.ws')
 | 19=>∃ b cs fr,u=pt b 0/\Bx w b [.slice none 0 0,.slice none 0 0,.slice none 0 0]/\B<=b/\w.heap[b]? = some (.cells cs 50 fr)
 | _=>True
theorem rw_kept {B z n:Nat} {t:TypeId} {v:Value} {xs:List Value} {w w1:World} (h:w.ownsRow B t z v n xs) (hb:Below w.heap.size w w1):w1.ownsRow B t z v n xs:=ows_of h (fun j e=>hb.block j (h.lt j e).2)
theorem twoAt.kept {w w1:World} {u x y:Value} (h:twoAt w u x y) (hb:Below w.heap.size w w1):twoAt w1 u x y:=by
 obtain ⟨b,h1,h2,h3,h4⟩:=h
 exact ⟨b,h1,(hb.cell (p:=⟨b,0,none⟩) h4).trans h2,(hb.cell (p:=⟨b,1,none⟩) h4).trans h3,Nat.lt_of_lt_of_le h4 hb.size⟩
theorem Own3.kept {B:Nat} {w w1:World} {p q r:Value} {ln:List Lin} {sm:List UInt8} {ws:List Wt} (h:Own3 B w p q r ln sm ws) (hb:Below w.heap.size w w1):Own3 B w1 p q r ln sm ws:=⟨rw_kept h.ln hb,rw_kept h.sm hb,rw_kept h.ws hb⟩
theorem Cat.phi_kept {D:Cat} {B i:Nat} {u:Value} {w w1:World} (h:D.phi B i u w) (hb:Below w.heap.size w w1):D.phi B i u w1:=by
 unfold Cat.phi at h ⊢
 split at h
 ·exact h
 ·exact h
 ·exact h
 ·exact h
 ·exact h.kept hb
 ·exact rw_kept h hb
 ·exact h
 ·exact h
 ·exact h
 ·exact h
 ·exact h.kept hb
 ·exact rw_kept h hb
 ·exact h
 ·exact h
 ·exact h
 ·exact h
 ·exact h.kept hb
 ·exact rw_kept h hb
 ·obtain ⟨p,q,r,h1,h2⟩:=h
  exact ⟨p,q,r,h1,h2.kept hb⟩
 ·obtain ⟨b,cs,fr,h1,h2,h3,h4⟩:=h
  exact ⟨b,cs,fr,h1,h2.kept hb,h3,(hb.block b h2.z).trans h4⟩
 ·trivial
/-! ### single operations, over any frame -/
section
variable {P : Program} {ops : Array Oper} {Q : Exit -> Act -> World -> Prop} {o : Oper} {a : Act} {w w' : World} {v r : Value} {K : Act -> World -> Prop} {ρ : Operand -> Value}
end
def needs (o:Oper) (l:List Nat):Bool:=l.all fun j=>o.after.toList.any fun e=>Region.binds .any e && e.on == j
def row (o:Oper) (l:List Nat):Option Nat × Option (Nat × Bool) × Op × Bool:=(o.dst,o.guard,o.op,needs o l)
def dstOf (i:Nat):Nat:=if i=19 then 21 else 102+i
theorem dst_ne {i j:Nat} (h:i ≠ j) (hi:i < 20) (hj:j < 20):dstOf i ≠ dstOf j:=by
 unfold dstOf
 split <;> split <;> omega
theorem dst_out {i d:Nat} (hi:i < 20) (hd:d < 102 \/ 120 < d) (h21:d ≠ 21):d ≠ dstOf i:=by
 unfold dstOf
 split <;> omega
theorem dst_lt {i:Nat} (hi:i < 20):dstOf i < 141:=by
 unfold dstOf
 split <;> omega
structure CInv (D : Cat) (w0 : World) (u : Nat -> Value) (listed : Array Bool) (a : Act) (w : World) : Prop where
 sz:a.tmps.size=141
 df:a.defers=[]
 low:Below w0.heap.size w0 w
 keep:∀ d,(d < 102 \/ 120 < d)->d ≠ 21->sv a d=u d
 phi:∀ i,i < 20->listed.getD i false=true->D.phi w0.heap.size i (sv a (dstOf i)) w
theorem getD_set {l:Array Bool} {i j:Nat} (h:j ≠ i):(l.setIfInBounds i true).getD j false=l.getD j false:=by
 rw [Array.getD_eq_getD_getElem?,Array.getD_eq_getD_getElem?,Array.getElem?_setIfInBounds_ne (by omega)]
theorem CInv.go {D:Cat} {w0:World} {u:Nat->Value} {listed:Array Bool} {a:Act} {w w':World} {i:Nat} {v:Value} (h:CInv D w0 u listed a w) (hi:i < 20) (hb:Below w.heap.size w w') (hv:D.phi w0.heap.size i v w'):CInv D w0 u (listed.setIfInBounds i true) (a.put (some (dstOf i)) v) w':=by
 have hlt:dstOf i < a.tmps.size:=by rw [h.sz];exact dst_lt hi
 refine ⟨by rw [size_put];exact h.sz,h.df,stp h.low hb,fun d hd h21=>by rw [sv_ne (dst_out hi hd h21)];exact h.keep d hd h21,fun j hj hl=>?_⟩
 by_cases hji:j=i
 ·subst hji
  rw [sv_put hlt]
  exact hv
 ·rw [getD_set hji] at hl
  rw [sv_ne (dst_ne hji hj hi)]
  exact Cat.phi_kept (h.phi j hj hl) hb
theorem fld {H:Type} {enc:TypeId × Value->H} {P:Program} {w:World} {base:Nat} {spare:Nat->Bool} {held:Bool} {n i o:Nat} {ty:TypeId} {cs:List Value} {xs:List (DataW H × List MemPlace)}
 (h:DataW.trod enc P w base spare held n ty ((cs.drop o).take (P.cellsOf ty))=xs[i]?) (hi:i < xs.length) (hc:P.cellsOf ty=1) {v:Value} (hv:cs[o]? = some v):∃ y,DataW.trod enc P w base spare held n ty [v]=some y:=by
 rw [hc,List.getElem?_eq_getElem hi] at h
 have e:(cs.drop o).take 1=[v]:=by
  rw [List.take_one,List.head?_drop,hv]
  rfl
 rw [e] at h
 exact ⟨_,h⟩
theorem fld_int {H:Type} {enc:TypeId × Value->H} {P:Program} {w:World} {base:Nat} {spare:Nat->Bool} {held:Bool} {n i o:Nat} {ty:TypeId} {cs:List Value} {xs:List (DataW H × List MemPlace)} {k:IntKind}
 (h:DataW.trod enc P w base spare held n ty ((cs.drop o).take (P.cellsOf ty))=xs[i]?) (hi:i < xs.length) (hc:P.cellsOf ty=1) (ht:P.underlying ty=some (.int k)) {v:Value} (hv:cs[o]? = some v):∃ a:Int,v = .int k a/\(Lit.int k a).wf=true:=by
 obtain ⟨y,hy⟩:=fld h hi hc hv
 obtain ⟨a,e,_,hw⟩:=DataW.trod_int ht hy
 simp only [List.cons.injEq,and_true] at e
 exact ⟨a,e,hw⟩
theorem fld_bool {H:Type} {enc:TypeId × Value->H} {P:Program} {w:World} {base:Nat} {spare:Nat->Bool} {held:Bool} {n i o:Nat} {ty:TypeId} {cs:List Value} {xs:List (DataW H × List MemPlace)}
 (h:DataW.trod enc P w base spare held n ty ((cs.drop o).take (P.cellsOf ty))=xs[i]?) (hi:i < xs.length) (hc:P.cellsOf ty=1) (ht:P.underlying ty=some .bool) {v:Value} (hv:cs[o]? = some v):∃ a:Bool,v = .bool a:=by
 obtain ⟨y,hy⟩:=fld h hi hc hv
 obtain ⟨a,e,_⟩:=DataW.trod_bool ht hy
 simp only [List.cons.injEq,and_true] at e
 exact ⟨a,e⟩
theorem trod_voice {H:Type} {enc:TypeId × Value->H} {w:World} {base:Nat} {spare:Nat->Bool} {held:Bool} {m:Nat} {c0 c1 c2 c3 c4:Value} {x:DataW H × List MemPlace} (h:DataW.trod enc Tryz.prog w base spare held m 33 [c0,c1,c2,c3,c4]=some x) :
 ∃ v:Vc,[c0,c1,c2,c3,c4]=vcs v/\v.ok:=by
 have hU:Tryz.prog.cellsOf 22=1:=by kernel_rfl
 have hB:Tryz.prog.cellsOf 4=1:=by kernel_rfl
 have hE:Tryz.prog.cellsOf 5=1:=by kernel_rfl
 obtain ⟨xs,n,_,_,_,hlen,hfs⟩:=DataW.trod_struct Tryz.underlying33 h
 have hl5:xs.length=5:=hlen
 obtain ⟨a0,rfl,w0⟩:=fld_int (ty:=22) (o:=0) (v:=c0) (hfs 0 _ rfl) (by omega) hU Tryz.underlying22 rfl
 obtain ⟨a1,rfl,w1⟩:=fld_int (ty:=22) (o:=1) (v:=c1) (hfs 1 _ rfl) (by omega) hU Tryz.underlying22 rfl
 obtain ⟨a2,rfl,w2⟩:=fld_int (ty:=5) (o:=2) (v:=c2) (hfs 2 _ rfl) (by omega) hE Tryz.underlying5 rfl
 obtain ⟨b3,rfl⟩:=fld_bool (ty:=4) (o:=3) (v:=c3) (hfs 3 _ rfl) (by omega) hB Tryz.underlying4 rfl
 obtain ⟨a4,rfl,w4⟩:=fld_int (ty:=22) (o:=4) (v:=c4) (hfs 4 _ rfl) (by omega) hU Tryz.underlying22 rfl
 exact ⟨⟨a0,a1,a2,b3,a4⟩,rfl,bounds_u16 w0,bounds_u16 w1,bounds_u8 w2,bounds_u16 w4⟩
end Go.Proofs.YtbhpfkjfijdmaaaGreatDoor
