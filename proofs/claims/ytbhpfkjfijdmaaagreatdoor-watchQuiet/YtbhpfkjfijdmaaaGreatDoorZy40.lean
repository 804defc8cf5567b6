/-
  Parts of a proof, joined.
-/
import Derived.Test.YtbhpfkjfijdmaaaGreatDoorZy39
import Derived.Test.YtbhpfkjfijdmaaaGreatDoorZy34
import Derived.Test.YtbhpfkjfijdmaaaGreatDoorZy37
import Derived.Test.YtbhpfkjfijdmaaaGreatDoorZy16
import Derived.Test.YtbhpfkjfijdmaaaGreatDoorZy32
namespace Go.Proofs.YtbhpfkjfijdmaaaGreatDoor
open Go.ChangeShapes Go.WideShapes Go.ChangeAt Go.RowKit
set_option linter.unusedVariables false
set_option maxRecDepth 100000
set_option maxHeartbeats 3200000
theorem Wc.text (v:Value) (rom:List UInt8) (pc:Int) (hp:0<=pc/\pc<=65535) (w:World) (hs:sliceAt w v rom) (hn:rom.length<=1024) (hF:AF w) :
 Calls Tryz.prog 66 #[v,.int .u16 pc] w fun e w'=>e = .returned (.string (Asmk (wtext rom pc.toNat)))/\Below w.heap.size w w':=by
 obtain ⟨p,rfl⟩:=Int.eq_ofNat_of_zero_le hp.1
 rw [Int.toNat_natCast]
 have hp2:p<=65535:=by omega
 rcases hs with ⟨a,cap,rfl,rfl⟩ | ⟨g,o,cap,rfl,h2,h3,h4⟩
 ·refine (Wc.few a 0 cap p hp2 (Nat.zero_le _) (by omega) (by omega) w).mono ?_
  rintro e w' ⟨rfl,rfl⟩
  exact ⟨by unfold wtext;rw [if_pos (by simp)],st0 _⟩
 ·by_cases hf:rom.length - p < 2
  ·refine (Wc.few _ rom.length cap p hp2 h2 (by omega) hf w).mono ?_
   rintro e w' ⟨rfl,rfl⟩
   exact ⟨by unfold wtext;rw [if_pos hf],st0 _⟩
  ·exact Wc.many g o rom.length cap rom rfl p hp2 h2 (by omega) (by omega) w h3 h4 hF
def Mach.mdue (M:Mach):Bool:=decide (M.mready<=M.clock) && (!M.main.Waits && !(M.main.May && (M.t.g || M.b.g)))
def Mach.adue (M:Mach):Bool := !M.held && decide (M.aready<=M.clock) && (!M.aux.Waits && !(M.aux.May && M.rung))
def Mach.mdid (M:Mach):List Dd:=if M.mdue then [⟨M.clock,false,M.main.PC,wtext M.mrom M.main.PC.toNat⟩] else []
def Mach.adid (M:Mach):List Dd:=if M.adue then [⟨M.clock,true,M.aux.PC,wtext M.arom M.aux.PC.toNat⟩] else []
def Mach.due (M:Mach):List Dd:=M.mdid++M.adid
structure WD (w : World) (M : Mach) (S : Sl) (Y : World) : Prop where
 low:Below w.heap.size w Y
 bx:Bx Y w.heap.size (machL M S)
theorem WD.kept {w:World} {M:Mach} {S:Sl} {Y Y':World} (h:WD w M S Y) (hb:Below Y.heap.size Y Y'):WD w M S Y':=⟨stp h.low hb,h.bx.kept hb⟩
--MID
theorem WD.s3 {w:World} {M:Mach} {S:Sl} {Y:World} (h:WD w M S Y):Y.cell? ⟨w.heap.size,72,none⟩=some (.int .i64 M.clock)/\Y.cell? ⟨w.heap.size,8,none⟩=some (.int .u16 M.main.PC)/\Y.cell? ⟨w.heap.size,30,none⟩=some S.mr:=⟨h.bx.at 72 _ rfl,h.bx.at 8 _ rfl,h.bx.at 30 _ rfl⟩
theorem WD.s5 {w:World} {M:Mach} {S:Sl} {Y:World} (h:WD w M S Y):Y.cell? ⟨w.heap.size,72,none⟩=some (.int .i64 M.clock)/\Y.cell? ⟨w.heap.size,23,none⟩=some (.int .u16 M.aux.PC)/\Y.cell? ⟨w.heap.size,31,none⟩=some S.ar:=⟨h.bx.at 72 _ rfl,h.bx.at 23 _ rfl,h.bx.at 31 _ rfl⟩
theorem WD.grown {w:World} {M:Mach} {S:Sl} {Y Y':World} {v:Value} {n:Nat} {xs:List Value} {t:TypeId} {z:Nat} (h:WD w M S Y) (ho:Y.ownsRow (w.heap.size+1) t z v n xs) (hg:Y.grownBy Y' v.ownBlock):WD w M S Y' :=
 ⟨h.low.grown hg h.low.size (fun k e=>by have:=(row_at ho k e).1;omega),h.bx.same hg.size (hg.block _ h.bx.z (fun e=>by have:=(row_at ho _ e.symm).1;omega))⟩
theorem own_keep {B:Nat} {t:TypeId} {z n:Nat} {v:Value} {xs:List Value} {Y Y':World} (h:Y.ownsRow B t z v n xs) (hb:Below Y.heap.size Y Y'):Y'.ownsRow B t z v n xs :=
 h.kept (grown_of_below hb) (by cases e:v.ownBlock with | none=>exact Or.inl rfl | some g=>exact Or.inr (by simp))
theorem exec_build4 {P:Program} {a:Act} {o:Oper} {w:World} (t:TypeId) (i j k l:Nat) (x y z u:Operand) (ho:o.op = .build t #[(i,x),(j,y),(k,z),(l,u)]) (xv yv zv uv v:Value) (hx:a.eval x=xv) (hy:a.eval y=yv) (hz:a.eval z=zv) (hu:a.eval u=uv)
 (hrun:(Instr.build t #[(i,xv),(j,yv),(k,zv),(l,uv)]).run P w = .ok v w):(execOp a.eval o).run P w = .ok (.value v) w :=
 exec_build t _ ho v (by simp only [List.map_toArray,List.map_cons,List.map_nil,hx,hy,hz,hu];exact hrun)
theorem run_did0 (c p:Int) (t:List UInt8) (w:World):(Instr.build 76 #[(0,.int .i64 c),(2,.int .u16 p),(3,.string (Asmk t))]).run Tryz.prog w = .ok (.agg (didL ⟨c,false,p,t⟩).toArray) w:=by kernel_rfl
theorem run_did1 (c p:Int) (t:List UInt8) (w:World):(Instr.build 76 #[(0,.int .i64 c),(1,.bool true),(2,.int .u16 p),(3,.string (Asmk t))]).run Tryz.prog w = .ok (.agg (didL ⟨c,true,p,t⟩).toArray) w:=by kernel_rfl
theorem run_bdid (x:Dd) (w:World):(Instr.buildSlice 71 1 #[(0,.agg (didL x).toArray)]).run Tryz.prog w = .ok (.slice (some ⟨w.heap.size,0,none⟩) 1 1) (w.alloc (.cells (didL x).toArray 76)):=by kernel_rfl
theorem info_did:(Tryz.prog.info? 76).map (fun i=>(i.zero,i.size,i.bytes))=some (some (.agg #[.int .i64 0,.bool false,.int .u16 0,.string ⟨#[]⟩]),4,32):=by kernel_rfl
theorem did_one (x:Dd):∀ u ∈ didL x,u.oneCell'=true:=fun u hu=>by
 simp only [didL,List.mem_cons,List.not_mem_nil,or_false] at hu
 rcases hu with rfl | rfl | rfl | rfl <;> rfl
theorem own_low {B:Nat} {t:TypeId} {z n:Nat} {v:Value} {xs:List Value} {Y:World} (h:Y.ownsRow (B+1) t z v n xs):Y.ownsRow B t z v n xs:=by
 obtain ⟨e,h | ⟨g,c,fr,h1,h2,h3⟩⟩:=h
 ·exact ⟨e,Or.inl h⟩
 ·exact ⟨e,Or.inr ⟨g,c,fr,h1,by omega,h3⟩⟩
theorem WD.auxR {w:World} {M:Mach} {S:Sl} {Y:World} (h:WD w M S Y):Y.rangeAt w.heap.size 15 (cpuL M.aux):=fun i v hi=>by
 refine h.bx.at (15+i) v ?_
 have hl:=(List.getElem?_eq_some_iff.1 hi).1
 unfold machL
 rw [List.getElem?_append_right (by show 15<=15+i;omega),List.getElem?_append_left (by show 15+i - 15 < _;omega),show 15+i - (cpuL M.main).length=i by show 15+i - 15=i;omega]
 exact hi
theorem dcs_app (l:List Dd) (x:Dd):dcs (l++[x])=dcs l++didL x:=by simp [dcs]
theorem Wc.due (M:Mach) (S:Sl) (w:World) (hs:SlAt w S M) (hf:M.fit) (hF:AF w) :
 Calls Tryz.prog 40 #[.agg (machL M S).toArray] w fun e w'=>∃ v,e = .returned v/\w'.ownsRow w.heap.size 76 4 v M.due.length (dcs M.due)/\Below w.heap.size w w':=by
 have hW:WD w M S (w.alloc (.cells (machL M S).toArray 41)):=⟨stA (st0 w) _,Bx.new w (machL M S) 41 (b:=w.heap.size) rfl⟩
 have HW:=hid hW
 have HS:=hid hs
 have HFT:=hid hf
 have HF:=hid hF
 clear hW hs hf hF
 go_enter Tryz.func40,Tryz.ntmps40
 go_upto_region 2 with fail
 go_cut [1,3,21] (fun v1 v3 v21 Y=>v1=pt w.heap.size 0/\v3 = .slice none 0 0/\v21 = .bool M.mdue/\WD w M S Y)
 case first =>
  have x72:=HW.out.bx.at 72 (.int .i64 M.clock) rfl
  have x73:=HW.out.bx.at 73 (.int .i64 M.mready) rfl
  have x44:=HW.out.bx.at 44 (.bool M.t.g) rfl
  have x63:=HW.out.bx.at 63 (.bool M.b.g) rfl
  have hz:=HW.out.bx.z
  have N1:Hid ((w.alloc (.cells (machL M S).toArray 41)).rangeAt w.heap.size 0 (cpuL M.main)):=hid (fun j v hj=>by rw [Nat.zero_add];exact HW.out.bx.at j v (by unfold machL;rw [List.getElem?_append_left (List.getElem?_eq_some_iff.1 hj).1];exact hj))
  have HMD:Hid (M.mdue=(decide (M.mready<=M.clock) && (!M.main.Waits && !(M.main.May && (M.t.g || M.b.g))))):=hid rfl
  obtain ⟨tg,htg⟩:∃ b,b=M.t.g:=⟨_,rfl⟩
  rw [<- htg] at x44 HMD
  clear htg
  by_cases hr:M.mready<=M.clock
  ·have hd:decide (M.mready<=M.clock)=true:=decide_eq_true hr
   rw [hd] at HMD
   clear hr
   cases tg
   all_goals
    go_wp2_with (first
     | (go_at_call 65;refine (does_any M.main _ _).mono ?_;rintro e w1 ⟨rfl,hb1⟩;have HW1:=hid (HW.out.kept hb1))
     | (refine Bu.loadG rfl 25 _ rfl w.heap.size 0 rfl (cpuL M.main) _ N1.out Tryz.underlying25 rfl info_cpu ?_))
    go_meet
    exact ⟨rfl,rfl,by rw [HMD.out];simp,HW1.out⟩
  ·have hd:decide (M.mready<=M.clock)=false:=decide_eq_false hr
   rw [hd] at HMD
   clear hr
   go_wp2
   go_meet
   exact ⟨rfl,rfl,by rw [HMD.out];rfl,HW.out⟩
 case rest =>
  obtain ⟨rfl,rfl,rfl,hY⟩:=hcut
  have HY:=hid hY
  have HO:Hid (wc.ownsRow (w.heap.size+1) 76 4 (.slice none 0 0) ([]:List Dd).length (dcs [])):=hid ⟨rfl,Or.inl ⟨rfl,rfl⟩⟩
  have HLN:Hid (([]:List Dd).length<=1):=hid (Nat.zero_le _)
  have HMI:Hid (M.mdid=if M.mdue then [⟨M.clock,false,M.main.PC,wtext M.mrom M.main.PC.toNat⟩] else []):=hid rfl
  obtain ⟨md,hmd⟩:∃ b,b=M.mdue:=⟨_,rfl⟩
  rw [<- hmd] at HMI ⊢
  clear hY hmd HW
  cases md
  case' true =>
   go_wp2
   refine wp_region_held_drew (S:=fun w'=>w'.cell? ⟨w.heap.size,72,none⟩=some (.int .i64 M.clock)/\w'.cell? ⟨w.heap.size,8,none⟩=some (.int .u16 M.main.PC)/\w'.cell? ⟨w.heap.size,30,none⟩=some S.mr) (by kernel_rfl) (HY.out.s3) ?_
   intro hS
   refine wpAnyH_take (i:=0) (oi:=⟨some 22,_,_,_,_,none⟩) (v:=?_) rfl (by kernel_rfl) (by kernel_rfl) (by kernel_rfl) (fun _ _ _ h=>h) (Or.inl ⟨by rfl,?_⟩) hS ?_
   rotate_left 1
   focus (intro w hSw;clear hSw;go_simp;try (with_reducible rfl))
   simp only [Act.put,xA,xB,xC]
   refine wpAnyH_take (i:=1) (oi:=⟨some 23,_,_,_,_,none⟩) (v:=?_) rfl (by kernel_rfl) (by kernel_rfl) (by kernel_rfl) (fun _ _ _ h=>h) (Or.inl ⟨by rfl,?_⟩) hS ?_
   rotate_left 1
   focus (intro w hSw;clear hSw;go_simp;try (with_reducible rfl))
   simp only [Act.put,xA,xB,xC]
   refine wpAnyH_take (i:=3) (oi:=⟨some 25,_,_,_,_,none⟩) (v:=?_) rfl (by kernel_rfl) (by kernel_rfl) (by kernel_rfl) (fun _ _ _ h=>h) (Or.inl ⟨by rfl,?_⟩) hS ?_
   rotate_left 1
   focus (intro w hSw;clear hSw;go_simp;try (with_reducible rfl))
   simp only [Act.put,xA,xB,xC]
   refine wpAnyH_take (i:=4) (oi:=⟨some 26,_,_,_,_,none⟩) (v:=?_) rfl (by kernel_rfl) (by kernel_rfl) (by kernel_rfl) (fun _ _ _ h=>h) (Or.inl ⟨by rfl,?_⟩) hS ?_
   rotate_left 1
   focus (intro w hSw;clear hSw;go_simp;try (with_reducible rfl))
   simp only [Act.put,xA,xB,xC]
   refine wpAnyH_take (i:=6) (oi:=⟨some 28,_,_,_,_,none⟩) (v:=?_) rfl (by kernel_rfl) (by kernel_rfl) (by kernel_rfl) (fun _ _ _ h=>h) (Or.inl ⟨by rfl,?_⟩) hS ?_
   rotate_left 1
   focus (intro w hSw;clear hSw;go_simp;try (with_reducible rfl))
   simp only [Act.put,xA,xB,xC]
   refine wpAnyH_take (i:=8) (oi:=⟨some 30,_,_,_,_,none⟩) (v:=?_) rfl (by kernel_rfl) (by kernel_rfl) (by kernel_rfl) (fun _ _ _ h=>h) (Or.inl ⟨by rfl,?_⟩) hS ?_
   rotate_left 1
   focus (intro w hSw;clear hSw;go_simp;try (with_reducible rfl))
   simp only [Act.put,xA,xB,xC]
   refine wpAnyH_take (i:=9) (oi:=⟨some 31,_,_,_,_,none⟩) (v:=?_) rfl (by kernel_rfl) (by kernel_rfl) (by kernel_rfl) (fun _ _ _ h=>h) (Or.inl ⟨by rfl,?_⟩) hS ?_
   rotate_left 1
   focus (intro w hSw;clear hSw;go_simp;try (with_reducible rfl))
   simp only [Act.put,xA,xB,xC]
   refine wpAnyH_take (i:=2) (oi:=⟨some 24,_,_,_,_,none⟩) (v:=.int .i64 M.clock) rfl (by kernel_rfl) (by kernel_rfl) (by kernel_rfl) (fun _ _ _ h=>h) (Or.inl ⟨by rfl,?_⟩) hS ?_
   ·intro w' hSw
    have hcc:=hSw.1
    have hcz:=World.block_lt_of_cell? w' _ hcc
    go_simp
    try (with_reducible rfl)
   simp only [Act.put,xA,xB,xC]
   refine wpAnyH_take (i:=5) (oi:=⟨some 27,_,_,_,_,none⟩) (v:=.int .u16 M.main.PC) rfl (by kernel_rfl) (by kernel_rfl) (by kernel_rfl) (fun _ _ _ h=>h) (Or.inl ⟨by rfl,?_⟩) hS ?_
   ·intro w' hSw
    have hcc:=hSw.2.1
    have hcz:=World.block_lt_of_cell? w' _ hcc
    go_simp
    try (with_reducible rfl)
   simp only [Act.put,xA,xB,xC]
   refine wpAnyH_take (i:=7) (oi:=⟨some 29,_,_,_,_,none⟩) (v:=S.mr) rfl (by kernel_rfl) (by kernel_rfl) (by kernel_rfl) (fun _ _ _ h=>h) (Or.inl ⟨by rfl,?_⟩) hS ?_
   ·intro w' hSw
    have hcc:=hSw.2.2
    have hcz:=World.block_lt_of_cell? w' _ hcc
    go_simp
    try (with_reducible rfl)
   simp only [Act.put,xA,xB,xC]
   refine wpAnyH_take (i:=10) (oi:=⟨some 32,_,_,_,_,none⟩) (v:=.int .u16 M.main.PC) rfl (by kernel_rfl) (by kernel_rfl) (by kernel_rfl) (fun _ _ _ h=>h) (Or.inl ⟨by rfl,?_⟩) hS ?_
   ·intro w' hSw
    have hcc:=hSw.2.1
    have hcz:=World.block_lt_of_cell? w' _ hcc
    go_simp
    try (with_reducible rfl)
   simp only [Act.put,xA,xB,xC]
   refine wpAnyH_ready (rs:=[11]) (by kernel_rfl) (by simp) ?_
   refine AllReadyH.cons (o:=⟨some 33,_,_,_,_,none⟩) rfl (fun K hK=>?_) AllReadyH.nil
   go_simp
   go_at_call 66
   refine (Wc.text S.mr M.mrom M.main.PC HFT.out.main.2.2 _ (HS.out.kept HY.out.low.drew 0 (by decide)) HFT.out.mrom (HF.out.kept HY.out.low.drew)).mono ?_
   rintro e w2 ⟨rfl,hbw2⟩
   have HB2:=hid (HY.out.kept (stp (st0 wc).drew hbw2))
   have HO2:=hid (own_keep HO.out (stp (st0 wc).drew hbw2))
   clear hbw2
   try go_wp2_with fail
   refine hK.out _ _ (HB2.out.s3) (fun _=>?_)
   clear hK K
   try simp only [Act.put,xA,xB,xC]
   clear hS
   have hS:=HB2.out.s3
   refine wpAnyH_take (i:=12) (oi:=⟨some 34,_,_,_,_,none⟩) (v:=.agg (didL ⟨M.clock,false,M.main.PC,wtext M.mrom M.main.PC.toNat⟩).toArray) rfl (by kernel_rfl) (by kernel_rfl) (by kernel_rfl) (fun _ _ _ h=>h) (Or.inl ⟨by rfl,fun w' _=>exec_build3 76 0 2 3 _ _ _ rfl (.int .i64 M.clock) (.int .u16 M.main.PC) (.string (Asmk (wtext M.mrom M.main.PC.toNat))) (.agg (didL ⟨M.clock,false,M.main.PC,wtext M.mrom M.main.PC.toNat⟩).toArray) rfl rfl rfl (run_did0 _ _ _ w')⟩) hS ?_
   simp only [Act.put,xA,xB,xC]
   refine wpAnyH_ready (rs:=[13]) (by kernel_rfl) (by simp) ?_
   refine AllReadyH.cons (o:=⟨some 35,_,_,_,_,none⟩) rfl (fun K hK=>?_) AllReadyH.nil
   refine step_bslice rfl 71 1 0 _ rfl (.agg (didL ⟨M.clock,false,M.main.PC,wtext M.mrom M.main.PC.toNat⟩).toArray) rfl (run_bdid ⟨M.clock,false,M.main.PC,wtext M.mrom M.main.PC.toNat⟩ _) ?_
   have HZ1:=hid (HB2.out.kept (stA (st0 w2) (.cells (didL ⟨M.clock,false,M.main.PC,wtext M.mrom M.main.PC.toNat⟩).toArray 76)))
   have HO3:=hid (own_keep HO2.out (stA (st0 w2) (.cells (didL ⟨M.clock,false,M.main.PC,wtext M.mrom M.main.PC.toNat⟩).toArray 76)))
   refine hK.out _ _ (HZ1.out.s3) (fun _=>?_)
   clear hK K
   try simp only [Act.put,xA,xB,xC]
   clear hS
   have hS:=HZ1.out.s3
   refine wpAnyH_ready (rs:=[14]) (by kernel_rfl) (by simp) ?_
   refine AllReadyH.cons (o:=⟨some 36,_,_,_,_,none⟩) rfl (fun K hK=>?_) AllReadyH.nil
   obtain ⟨i1,hj0,hy0,hy1,hy2⟩:=info_parts info_did
   refine step_append_lies _ (by rfl) (.tmp 22) (.tmp 35) 71 (by rfl) (w.heap.size+1) 76 i1 _ 4 32 Tryz.underlying71 hj0 hy0 hy1 hy2 rfl (by omega) (.slice none 0 0) ([]:List Dd).length (dcs ([]:List Dd)) rfl HO3.out ⟨w2.heap.size,0,none⟩ 1 1 (didL ⟨M.clock,false,M.main.PC,wtext M.mrom M.main.PC.toNat⟩) rfl rfl (line_cells _ w2) (did_one _) (by omega) (by unfold maxLen;have:=HLN.out;omega) (by have:=HLN.out;omega) (Nat.le_trans HZ1.out.bx.z (Nat.le_refl _)) _ rfl ?_
   intro g1 cap1 W3 hown1 hg1 hat1 hz1
   have HO1:=hid hown1
   have HZ3:=hid (HZ1.out.grown HO3.out hg1)
   clear hown1 hg1 hat1 hz1
   refine hK.out _ _ (HZ3.out.s3) (fun _=>?_)
   clear hK K
   try simp only [Act.put,xA,xB,xC]
   clear hS
   have hS:=HZ3.out.s3
   refine wpAnyH_take (i:=15) (oi:=⟨some 3,_,_,_,_,none⟩) (v:=?_) rfl (by kernel_rfl) (by kernel_rfl) (by kernel_rfl) (fun _ _ _ h=>h) (Or.inl ⟨by rfl,?_⟩) hS ?_
   rotate_left 1
   focus (intro w hSw;clear hSw;go_simp;try (with_reducible rfl))
   simp only [Act.put,xA,xB,xC]
   refine wpAnyH_done (by kernel_rfl) ?_ _
   go_simp
   have HOa:Hid (W3.ownsRow (w.heap.size+1) 76 4 (.slice (some ⟨g1,0,none⟩) 1 cap1) M.mdid.length (dcs M.mdid)):=hid (by rw [HMI.out];exact HO1.out)
   have HYa:=HZ3
   clear HO1 HZ3 HZ1 HO3 HO2 HB2 hS HO HY HLN HMI
  case' false =>
   have HOa:Hid (wc.ownsRow (w.heap.size+1) 76 4 (.slice none 0 0) M.mdid.length (dcs M.mdid)):=hid (by rw [HMI.out];exact HO.out)
   have HYa:=HY
   clear HO HY HLN HMI
  all_goals
   go_upto_region 4 with fail
   go_cut [1,3,53] (fun v1 v3 v53 Y=>v1=pt w.heap.size 0/\v53 = .bool M.adue/\WD w M S Y/\Y.ownsRow (w.heap.size+1) 76 4 v3 M.mdid.length (dcs M.mdid))
   case first =>
    have x68:=HYa.out.bx.at 68 (.bool M.held) rfl
    have x71:=HYa.out.bx.at 71 (.bool M.rung) rfl
    have x72:=HYa.out.bx.at 72 (.int .i64 M.clock) rfl
    have x74:=HYa.out.bx.at 74 (.int .i64 M.aready) rfl
    have hz:=HYa.out.bx.z
    have N2:=hid HYa.out.auxR
    have HAD:Hid (M.adue=(!M.held && decide (M.aready<=M.clock) && (!M.aux.Waits && !(M.aux.May && M.rung)))):=hid rfl
    obtain ⟨hd,hhd⟩:∃ b,b=M.held:=⟨_,rfl⟩
    rw [<- hhd] at x68 HAD
    clear hhd
    cases hd
    ·by_cases hr:M.aready<=M.clock
     ·have hdd:decide (M.aready<=M.clock)=true:=decide_eq_true hr
      rw [hdd] at HAD
      clear hr
      go_wp2_with (first
       | (go_at_call 65;refine (does_any M.aux _ _).mono ?_;rintro e w1 ⟨rfl,hb1⟩;have HW1:=hid (HYa.out.kept hb1);have HO4:=hid (own_keep HOa.out hb1);clear hb1)
       | (refine Bu.loadG rfl 25 _ rfl w.heap.size 15 rfl (cpuL M.aux) _ N2.out Tryz.underlying25 rfl info_cpu ?_))
      go_meet
      exact ⟨rfl,by rw [HAD.out];simp,HW1.out,HO4.out⟩
     ·have hdd:decide (M.aready<=M.clock)=false:=decide_eq_false hr
      rw [hdd] at HAD
      clear hr
      go_wp2
      go_meet
      exact ⟨rfl,by rw [HAD.out];rfl,HYa.out,HOa.out⟩
    ·go_wp2
     go_meet
     exact ⟨rfl,by rw [HAD.out];rfl,HYa.out,HOa.out⟩
   case rest =>
    obtain ⟨rfl,rfl,hY,hO⟩:=hcut
    have HY:=hid hY
    have HO:=hid hO
    have HLN:Hid (M.mdid.length<=1):=hid (by unfold Mach.mdid;split <;> simp)
    have HAI:Hid (M.adid=if M.adue then [⟨M.clock,true,M.aux.PC,wtext M.arom M.aux.PC.toNat⟩] else []):=hid rfl
    obtain ⟨ad,had⟩:∃ b,b=M.adue:=⟨_,rfl⟩
    rw [<- had] at HAI ⊢
    clear hY hO had HYa HOa
    cases ad
    ·go_wp2
     go_ret
     exact ⟨_,rfl,by show wc.ownsRow _ _ _ _ (M.mdid++M.adid).length (dcs (M.mdid++M.adid));rw [HAI.out];simp only [Bool.false_eq_true,if_false,List.append_nil];exact own_low HO.out,HY.out.low⟩
    ·go_wp2
     refine wp_region_held_drew (S:=fun w'=>w'.cell? ⟨w.heap.size,72,none⟩=some (.int .i64 M.clock)/\w'.cell? ⟨w.heap.size,23,none⟩=some (.int .u16 M.aux.PC)/\w'.cell? ⟨w.heap.size,31,none⟩=some S.ar) (by kernel_rfl) (HY.out.s5) ?_
     intro hS
     refine wpAnyH_take (i:=0) (oi:=⟨some 54,_,_,_,_,none⟩) (v:=?_) rfl (by kernel_rfl) (by kernel_rfl) (by kernel_rfl) (fun _ _ _ h=>h) (Or.inl ⟨by rfl,?_⟩) hS ?_
     rotate_left 1
     focus (intro w hSw;clear hSw;go_simp;try (with_reducible rfl))
     simp only [Act.put,xA,xB,xC]
     refine wpAnyH_take (i:=1) (oi:=⟨some 55,_,_,_,_,none⟩) (v:=?_) rfl (by kernel_rfl) (by kernel_rfl) (by kernel_rfl) (fun _ _ _ h=>h) (Or.inl ⟨by rfl,?_⟩) hS ?_
     rotate_left 1
     focus (intro w hSw;clear hSw;go_simp;try (with_reducible rfl))
     simp only [Act.put,xA,xB,xC]
     refine wpAnyH_take (i:=3) (oi:=⟨some 57,_,_,_,_,none⟩) (v:=?_) rfl (by kernel_rfl) (by kernel_rfl) (by kernel_rfl) (fun _ _ _ h=>h) (Or.inl ⟨by rfl,?_⟩) hS ?_
     rotate_left 1
     focus (intro w hSw;clear hSw;go_simp;try (with_reducible rfl))
     simp only [Act.put,xA,xB,xC]
     refine wpAnyH_take (i:=4) (oi:=⟨some 58,_,_,_,_,none⟩) (v:=?_) rfl (by kernel_rfl) (by kernel_rfl) (by kernel_rfl) (fun _ _ _ h=>h) (Or.inl ⟨by rfl,?_⟩) hS ?_
     rotate_left 1
     focus (intro w hSw;clear hSw;go_simp;try (with_reducible rfl))
     simp only [Act.put,xA,xB,xC]
     refine wpAnyH_take (i:=6) (oi:=⟨some 60,_,_,_,_,none⟩) (v:=?_) rfl (by kernel_rfl) (by kernel_rfl) (by kernel_rfl) (fun _ _ _ h=>h) (Or.inl ⟨by rfl,?_⟩) hS ?_
     rotate_left 1
     focus (intro w hSw;clear hSw;go_simp;try (with_reducible rfl))
     simp only [Act.put,xA,xB,xC]
     refine wpAnyH_take (i:=8) (oi:=⟨some 62,_,_,_,_,none⟩) (v:=?_) rfl (by kernel_rfl) (by kernel_rfl) (by kernel_rfl) (fun _ _ _ h=>h) (Or.inl ⟨by rfl,?_⟩) hS ?_
     rotate_left 1
     focus (intro w hSw;clear hSw;go_simp;try (with_reducible rfl))
     simp only [Act.put,xA,xB,xC]
     refine wpAnyH_take (i:=9) (oi:=⟨some 63,_,_,_,_,none⟩) (v:=?_) rfl (by kernel_rfl) (by kernel_rfl) (by kernel_rfl) (fun _ _ _ h=>h) (Or.inl ⟨by rfl,?_⟩) hS ?_
     rotate_left 1
     focus (intro w hSw;clear hSw;go_simp;try (with_reducible rfl))
     simp only [Act.put,xA,xB,xC]
     refine wpAnyH_take (i:=2) (oi:=⟨some 56,_,_,_,_,none⟩) (v:=.int .i64 M.clock) rfl (by kernel_rfl) (by kernel_rfl) (by kernel_rfl) (fun _ _ _ h=>h) (Or.inl ⟨by rfl,?_⟩) hS ?_
     ·intro w' hSw
      have hcc:=hSw.1
      have hcz:=World.block_lt_of_cell? w' _ hcc
      go_simp
      try (with_reducible rfl)
     simp only [Act.put,xA,xB,xC]
     refine wpAnyH_take (i:=5) (oi:=⟨some 59,_,_,_,_,none⟩) (v:=.int .u16 M.aux.PC) rfl (by kernel_rfl) (by kernel_rfl) (by kernel_rfl) (fun _ _ _ h=>h) (Or.inl ⟨by rfl,?_⟩) hS ?_
     ·intro w' hSw
      have hcc:=hSw.2.1
      have hcz:=World.block_lt_of_cell? w' _ hcc
      go_simp
      try (with_reducible rfl)
     simp only [Act.put,xA,xB,xC]
     refine wpAnyH_take (i:=7) (oi:=⟨some 61,_,_,_,_,none⟩) (v:=S.ar) rfl (by kernel_rfl) (by kernel_rfl) (by kernel_rfl) (fun _ _ _ h=>h) (Or.inl ⟨by rfl,?_⟩) hS ?_
     ·intro w' hSw
      have hcc:=hSw.2.2
      have hcz:=World.block_lt_of_cell? w' _ hcc
      go_simp
      try (with_reducible rfl)
     simp only [Act.put,xA,xB,xC]
     refine wpAnyH_take (i:=10) (oi:=⟨some 64,_,_,_,_,none⟩) (v:=.int .u16 M.aux.PC) rfl (by kernel_rfl) (by kernel_rfl) (by kernel_rfl) (fun _ _ _ h=>h) (Or.inl ⟨by rfl,?_⟩) hS ?_
     ·intro w' hSw
      have hcc:=hSw.2.1
      have hcz:=World.block_lt_of_cell? w' _ hcc
      go_simp
      try (with_reducible rfl)
     simp only [Act.put,xA,xB,xC]
     refine wpAnyH_ready (rs:=[11]) (by kernel_rfl) (by simp) ?_
     refine AllReadyH.cons (o:=⟨some 65,_,_,_,_,none⟩) rfl (fun K hK=>?_) AllReadyH.nil
     go_simp
     go_at_call 66
     refine (Wc.text S.ar M.arom M.aux.PC HFT.out.aux.2.2 _ (HS.out.kept HY.out.low.drew 1 (by decide)) HFT.out.arom (HF.out.kept HY.out.low.drew)).mono ?_
     rintro e w2 ⟨rfl,hbw2⟩
     have HB2:=hid (HY.out.kept (stp (st0 wc).drew hbw2))
     have HO2:=hid (own_keep HO.out (stp (st0 wc).drew hbw2))
     clear hbw2
     try go_wp2_with fail
     refine hK.out _ _ (HB2.out.s5) (fun _=>?_)
     clear hK K
     try simp only [Act.put,xA,xB,xC]
     clear hS
     have hS:=HB2.out.s5
     refine wpAnyH_take (i:=12) (oi:=⟨some 66,_,_,_,_,none⟩) (v:=.agg (didL ⟨M.clock,true,M.aux.PC,wtext M.arom M.aux.PC.toNat⟩).toArray) rfl (by kernel_rfl) (by kernel_rfl) (by kernel_rfl) (fun _ _ _ h=>h) (Or.inl ⟨by rfl,fun w' _=>exec_build4 76 0 1 2 3 _ _ _ _ rfl (.int .i64 M.clock) (.bool true) (.int .u16 M.aux.PC) (.string (Asmk (wtext M.arom M.aux.PC.toNat))) (.agg (didL ⟨M.clock,true,M.aux.PC,wtext M.arom M.aux.PC.toNat⟩).toArray) rfl rfl rfl rfl (run_did1 _ _ _ w')⟩) hS ?_
     simp only [Act.put,xA,xB,xC]
     refine wpAnyH_ready (rs:=[13]) (by kernel_rfl) (by simp) ?_
     refine AllReadyH.cons (o:=⟨some 67,_,_,_,_,none⟩) rfl (fun K hK=>?_) AllReadyH.nil
     refine step_bslice rfl 71 1 0 _ rfl (.agg (didL ⟨M.clock,true,M.aux.PC,wtext M.arom M.aux.PC.toNat⟩).toArray) rfl (run_bdid ⟨M.clock,true,M.aux.PC,wtext M.arom M.aux.PC.toNat⟩ _) ?_
     have HZ1:=hid (HB2.out.kept (stA (st0 w2) (.cells (didL ⟨M.clock,true,M.aux.PC,wtext M.arom M.aux.PC.toNat⟩).toArray 76)))
     have HO3:=hid (own_keep HO2.out (stA (st0 w2) (.cells (didL ⟨M.clock,true,M.aux.PC,wtext M.arom M.aux.PC.toNat⟩).toArray 76)))
     refine hK.out _ _ (HZ1.out.s5) (fun _=>?_)
     clear hK K
     try simp only [Act.put,xA,xB,xC]
     clear hS
     have hS:=HZ1.out.s5
     refine wpAnyH_ready (rs:=[14]) (by kernel_rfl) (by simp) ?_
     refine AllReadyH.cons (o:=⟨some 68,_,_,_,_,none⟩) rfl (fun K hK=>?_) AllReadyH.nil
     obtain ⟨i1,hj0,hy0,hy1,hy2⟩:=info_parts info_did
     refine step_append_lies _ (by rfl) (.tmp 54) (.tmp 67) 71 (by rfl) (w.heap.size+1) 76 i1 _ 4 32 Tryz.underlying71 hj0 hy0 hy1 hy2 rfl (by omega) u3 M.mdid.length (dcs M.mdid) rfl HO3.out ⟨w2.heap.size,0,none⟩ 1 1 (didL ⟨M.clock,true,M.aux.PC,wtext M.arom M.aux.PC.toNat⟩) rfl rfl (line_cells _ w2) (did_one _) (by omega) (by unfold maxLen;have:=HLN.out;omega) (by have:=HLN.out;omega) (Nat.le_trans HZ1.out.bx.z (Nat.le_refl _)) _ rfl ?_
     intro g1 cap1 W3 hown1 hg1 hat1 hz1
     have HO1:=hid hown1
     have HZ3:=hid (HZ1.out.grown HO3.out hg1)
     clear hown1 hg1 hat1 hz1
     refine hK.out _ _ (HZ3.out.s5) (fun _=>?_)
     clear hK K
     try simp only [Act.put,xA,xB,xC]
     clear hS
     have hS:=HZ3.out.s5
     refine wpAnyH_take (i:=15) (oi:=⟨some 3,_,_,_,_,none⟩) (v:=?_) rfl (by kernel_rfl) (by kernel_rfl) (by kernel_rfl) (fun _ _ _ h=>h) (Or.inl ⟨by rfl,?_⟩) hS ?_
     rotate_left 1
     focus (intro w hSw;clear hSw;go_simp;try (with_reducible rfl))
     simp only [Act.put,xA,xB,xC]
     refine wpAnyH_done (by kernel_rfl) ?_ _
     go_simp
     go_wp2
     go_ret
     exact ⟨_,rfl,by show W3.ownsRow _ _ _ _ (M.mdid++M.adid).length (dcs (M.mdid++M.adid));rw [HAI.out,if_pos trivial,dcs_app,List.length_append];exact own_low HO1.out,HZ3.out.low⟩
end Go.Proofs.YtbhpfkjfijdmaaaGreatDoor
