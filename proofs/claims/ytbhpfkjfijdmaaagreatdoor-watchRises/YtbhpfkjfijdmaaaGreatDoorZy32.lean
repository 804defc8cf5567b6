/-
  Parts of a proof, joined.
-/
import Derived.Test.YtbhpfkjfijdmaaaGreatDoorZy31
import Derived.Test.YtbhpfkjfijdmaaaGreatDoorZy26
namespace Go.Proofs.YtbhpfkjfijdmaaaGreatDoor
open Go.ChangeShapes Go.WideShapes Go.ChangeAt Go.RowKit
set_option linter.unusedVariables false
set_option maxRecDepth 100000
set_option maxHeartbeats 6400000
abbrev lineL (f:Int) (y:Nat) (r:Nat->Nat):List Value:=[Value.int .i64 f,Value.int .i64 y]++row16 r
theorem info_pix:(Tryz.prog.info? 56).map (·.size)=some 16:=by kernel_rfl
theorem row_one (f:Nat->Nat):(row16 f).toArray.all (·.oneCell')=true:=all_oneCell_toArray (fun v hv=>by
 unfold row16 at hv
 obtain ⟨x,_,rfl⟩:=List.mem_map.1 hv
 rfl)
theorem run_line (f:Int) (y:Nat) (r:Nat->Nat) (w:World):(Instr.build 58 #[(0,.int .i64 f),(1,.int .i64 y),(2,.agg (row16 r).toArray)]).run Tryz.prog w = .ok (.agg (lineL f y r).toArray) w:=by kernel_rfl
theorem run_bline (f:Int) (y:Nat) (r:Nat->Nat) (w:World):(Instr.buildSlice 47 1 #[(0,.agg (lineL f y r).toArray)]).run Tryz.prog w = .ok (.slice (some ⟨w.heap.size,0,none⟩) 1 1) (w.alloc (.cells (lineL f y r).toArray 58)):=by kernel_rfl
theorem info_line:(Tryz.prog.info? 58).map (fun i=>(i.zero,i.size,i.bytes))=some (some (.agg (lineL 0 0 fun _=>0).toArray),18,32):=by kernel_rfl
theorem step_bslice {P:Program} {ops:Array Oper} {op:Oper} {a:Act} {w w1:World} {K:Act->World->Prop} {Q:Exit->Act->World->Prop} {E:Prop} {v:Value} (hgd:op.guard=none) (ty:TypeId) (n i:Nat) (x:Operand) (ho:op.op = .buildSlice ty n #[(i,x)]) (xv:Value) (hx:a.eval x=xv)
 (hr:(Instr.buildSlice ty n #[(i,xv)]).run P w = .ok v w1) (h:K (a.put op.dst v) w1):if Region.wanted op (yielded ops a.tmps)=true then Oper.wp P op a w K Q else E:=by
 rw [if_pos (by simp [Region.wanted,hgd])]
 unfold Oper.wp
 have:(execOp a.eval op).run P w = .ok (.value v) w1:=by
  unfold execOp
  simp only [ho,List.map_toArray,List.map_cons,List.map_nil,hx,Sem.run_bind,hr,Result.andThen_ok,Sem.run_pure]
 rw [this]
 exact h
theorem line_len (f:Int) (y:Nat) (r:Nat->Nat):(lineL f y r).length=1 * 18:=by simp [row16_len]
theorem line_cells (L:List Value) (w:World) {t:TypeId}:∀ j u,L[j]? = some u->(w.alloc (.cells L.toArray t)).cell? ((⟨w.heap.size,0,none⟩:Addr).add j)=some u:=fun j u hj=>by
 rw [addr_add,Nat.zero_add]
 exact (Bx.new w L t (b:=w.heap.size) rfl).at j u hj
theorem line_one (f:Int) (y:Nat) (r:Nat->Nat):∀ u ∈ (lineL f y r),u.oneCell'=true:=fun u hu=>by
 rcases List.mem_append.1 hu with h | h
 ·simp only [List.mem_cons,List.not_mem_nil,or_false] at h
  rcases h with rfl | rfl <;> rfl
 ·unfold row16 at h
  obtain ⟨x,_,rfl⟩:=List.mem_map.1 h
  rfl
section
variable {F : Fx} {N c : Nat} {vco vln vsm v' : Value} {w w1 : World} {k : Cs} {s' : Bst} {M : Mach} {y b pb : Nat} {Y Y' : World}
theorem line_grow {g cap:Nat} (h:w1.ownsRow N 58 18 (.slice (some ⟨g,0,none⟩) (k.ln.length+1) cap) (k.ln.length+1) (lcs k.ln++lineL M.b.f y (px M.video y))):w1.ownsRow N 58 18 (.slice (some ⟨g,0,none⟩) (k.ln++[(⟨M.b.f,y,px M.video y⟩:Lin)]).length cap) (k.ln++[(⟨M.b.f,y,px M.video y⟩:Lin)]).length (lcs (k.ln++[(⟨M.b.f,y,px M.video y⟩:Lin)])):=by
 have e1:(k.ln++[(⟨M.b.f,y,px M.video y⟩:Lin)]).length=k.ln.length+1:=by simp
 have e2:lcs (k.ln++[(⟨M.b.f,y,px M.video y⟩:Lin)])=lcs k.ln++lineL M.b.f y (px M.video y):=by rw [lcs_app];simp [lcs]
 rw [e1,e2]
 exact h
structure LB (F : Fx) (N c : Nat) (vco vln vsm : Value) (k : Cs) (w : World) (M : Mach) (y : Nat) (Y : World) : Prop where
 ci:CI F N c vco vln vsm Y k
 low:Below w.heap.size w Y
 bx:Bx Y w.heap.size [.int .i64 y,.int .i64 M.b.a,.bool M.b.g,.int .i64 M.b.f]
 m:k.s.M=M
 lo:∀ j,vln.ownBlock=some j->j < w.heap.size
structure LC (F : Fx) (N c : Nat) (vco vln vsm : Value) (k : Cs) (w : World) (M : Mach) (y pb : Nat) (Y : World) : Prop extends LB F N c vco vln vsm k w M y Y where
 pix:Bx Y pb (row16 (px M.video y))
 pz:w.heap.size<=pb
theorem LB.kept' (hF:Fb F N) (h:LB F N c vco vln vsm k w M y Y) (hb:Below Y.heap.size Y Y'):LB F N c vco vln vsm k w M y Y':=⟨h.ci.keep hF hb,stp h.low hb,h.bx.kept hb,h.m,h.lo⟩
theorem LC.kept' (hF:Fb F N) (h:LC F N c vco vln vsm k w M y pb Y) (hb:Below Y.heap.size Y Y'):LC F N c vco vln vsm k w M y pb Y':=⟨h.toLB.kept' hF hb,h.pix.kept hb,h.pz⟩
theorem LB.mm (h:LB F N c vco vln vsm k w M y Y):∃ g o cap,Mm Y M.video F.S.vi g o cap:=by
 obtain ⟨v,hB⟩:=h.ci.i.bd
 rw [h.m] at hB
 exact Mm.of hB.vi.slice hB.fit.video
theorem LB.s2 (h:LB F N c vco vln vsm k w M y Y):Y.cell? ⟨c,0,none⟩=some (pt F.g 0)/\Y.cell? ⟨F.g,34,none⟩=some F.S.vi/\Y.cell? ⟨w.heap.size,0,none⟩=some (.int .i64 y):=by
 obtain ⟨v,hB⟩:=h.ci.i.bd
 exact ⟨h.ci.cb.bx.at 0 _ rfl,hB.at 34 _ rfl,h.bx.at 0 _ rfl⟩
theorem LC.s2 (h:LC F N c vco vln vsm k w M y pb Y):Y.cell? ⟨c,0,none⟩=some (pt F.g 0)/\Y.cell? ⟨F.g,34,none⟩=some F.S.vi/\Y.cell? ⟨w.heap.size,0,none⟩=some (.int .i64 y):=h.toLB.s2
theorem LC.s3 (h:LC F N c vco vln vsm k w M y pb Y):Y.cell? ⟨c,2,none⟩=some vln/\Y.cell? ⟨w.heap.size,3,none⟩=some (.int .i64 M.b.f)/\Y.cell? ⟨w.heap.size,0,none⟩=some (.int .i64 y)/\Y.rangeAt pb 0 (row16 (px M.video y)) :=
 ⟨h.ci.cb.bx.at 2 _ rfl,h.bx.at 3 _ rfl,h.bx.at 0 _ rfl,h.pix.c⟩
theorem LC.of (hF:Fb F N) (h:LB F N c vco vln vsm k w M y Y) (hb:Below Y.heap.size Y Y') (hx:Bx Y' pb (row16 (px M.video y))) (hp:w.heap.size<=pb):LC F N c vco vln vsm k w M y pb Y':=⟨h.kept' hF hb,hx,hp⟩
theorem pix_put {W:World} {L:List Value} {f:Nat->Nat} (h:Bx W pb L) (hl:L.length=16):Bx (W.setCells pb 0 (row16 f)) pb (row16 f):=by
 have:=h.puts 0 (row16 f) (by rw [row16_len];omega)
 rw [putL_whole _ _ (by rw [row16_len,hl])] at this
 exact this
theorem LC.grown {W3:World} (h:LC F N c vco vln vsm k w M y pb Y) (hg:Y.grownBy W3 vln.ownBlock) :
 (W3.cell? ⟨c,2,none⟩=some vln/\W3.cell? ⟨w.heap.size,3,none⟩=some (.int .i64 M.b.f)/\W3.cell? ⟨w.heap.size,0,none⟩=some (.int .i64 y)/\W3.rangeAt pb 0 (row16 (px M.video y)))/\W3.cell? ⟨c,2,none⟩=some vln/\c < W3.heap.size/\W3.frozen? ⟨c,2,none⟩=false:=by
 have hc:=h.ci.cb.same (hg.block c h.ci.cb.z (fun e=>row_ne h.ci.ln h.ci.cb.blk (by decide) e.symm))
 have hb:W3.heap[w.heap.size]? = Y.heap[w.heap.size]?:=hg.block _ h.bx.z (fun e=>by have:=h.lo _ e.symm;omega)
 have hp:W3.heap[pb]? = Y.heap[pb]?:=hg.block _ h.pix.z (fun e=>by have:=h.lo _ e.symm;have:=h.pz;omega)
 have hx:=h.bx.same hg.size hb
 exact ⟨⟨hc.bx.at 2 _ rfl,hx.at 3 _ rfl,hx.at 0 _ rfl,(h.pix.same hg.size hp).c⟩,hc.bx.at 2 _ rfl,hc.z,hc.bx.f 2⟩
theorem LC.fin {W3:World} {g cap:Nat} (hF:Fb F N) (h:LC F N c vco vln vsm k w M y pb Y) (ho:W3.ownsRow N 58 18 (.slice (some ⟨g,0,none⟩) (k.ln.length+1) cap) (k.ln.length+1) (lcs k.ln++lineL M.b.f y (px M.video y))) (hg:Y.grownBy W3 vln.ownBlock) (hB:F.B<=w.heap.size) :
 CI F N c vco (.slice (some ⟨g,0,none⟩) (k.ln.length+1) cap) vsm (W3.setCell ⟨c,2,none⟩ (.slice (some ⟨g,0,none⟩) (k.ln.length+1) cap)) { k with ln:=k.ln++[(⟨M.b.f,y,px M.video y⟩:Lin)] }/\Below F.B w (W3.setCell ⟨c,2,none⟩ (.slice (some ⟨g,0,none⟩) (k.ln.length+1) cap)):=by
 obtain ⟨x,hx⟩:∃ x:Lin,x=⟨M.b.f,y,px M.video y⟩:=⟨_,rfl⟩
 rw [<- hx]
 have e1:(k.ln++[x]).length=k.ln.length+1:=by simp
 have ho':W3.ownsRow N 58 18 (.slice (some ⟨g,0,none⟩) (k.ln++[x]).length cap) (k.ln++[x]).length (lcs (k.ln++[x])):=by
  rw [hx];exact line_grow ho
 obtain ⟨r1,r2⟩:=h.ci.grow2 (xs:=k.ln++[x]) hF ho' hg
 rw [e1] at r1 r2
 exact ⟨r1,(h.low.mono hB).trans r2⟩
theorem LB.start (hF:Fb F N) (h:CI F N c vco vln vsm w k) (hm:k.s.M=M):LB F N c vco vln vsm k w M y (w.alloc (.cells #[.int .i64 y,.int .i64 M.b.a,.bool M.b.g,.int .i64 M.b.f] 38)) :=
 ⟨h.keep hF (stA (st0 w) _),stA (st0 w) _,Bx.new w [.int .i64 y,.int .i64 M.b.a,.bool M.b.g,.int .i64 M.b.f] _ rfl,hm,fun j e=>(row_at h.ln j e).2.1⟩
theorem Lk.showLine (hF:Fb F N) (h:CI F N c vco vln vsm w k) (hl:k.ln.length<=100000):Calls Tryz.prog 50 #[pt c 0] w fun e w'=>e = .returned (.tuple #[]) /\ ∃ vln',CI F N c vco vln' vsm w' { k with ln:=k.ln++k.s.M.line }/\Below F.B w w':=by
 obtain ⟨v,hB⟩:=h.i.bd
 obtain ⟨M,hM⟩:∃ M,k.s.M=M:=⟨_,rfl⟩
 rw [hM] at hB ⊢
 have k0:=h.cb.bx.at 0 _ rfl
 have kz:=h.cb.z
 have m61:=hB.at 61 (.int .i64 M.b.l) rfl
 have m62:=hB.at 62 (.int .i64 M.b.a) rfl
 have m63:=hB.at 63 (.bool M.b.g) rfl
 have m64:=hB.at 64 (.int .i64 M.b.f) rfl
 have mz:=hB.bx.z
 have HF:=hid hF
 have H:=hid h
 have HL:=hid hl
 have hbl:=hB.fit.b.l0
 by_cases ha:M.b.a=0
 ·rw [ha] at m62
  by_cases h8:M.b.l < 8
  ·obtain ⟨y,hy⟩:∃ y:Nat,M.b.l=y:=Int.eq_ofNat_of_zero_le hbl
   have e0:M.line=[⟨M.b.f,y,px M.video y⟩]:=by
    unfold Mach.line
    rw [if_pos ⟨ha,h8⟩,hy];rfl
   rw [e0]
   rw [hy] at m61 h8
   have h8':y < 8:=by omega
   have HY8:=hid h8'
   have hst:=LB.start (y:=y) hF h hM
   rw [ha] at hst
   have HST:=hid hst
   have hya:¬ (8:Int)<=y:=by omega
   clear hF h hl hB hM e0 hst hbl h8 h8'
   go_enter Tryz.func50,Tryz.ntmps50
   go_upto_region 2 with fail
   refine Pl.cutW (LB F N c vco vln vsm k w M y) ?_ ?_
   ·exact HST.out
   intro Y hY
   have HLY:=hid hY.low
   have HY:=hid (hY.kept' HF.out (st0 Y).drew)
   clear hY HST k0 kz m61 m62 m63 m64 mz hya ha hy
   refine wp_region_held_drew (S:=fun w'=>w'.cell? ⟨c,0,none⟩=some (pt F.g 0)/\w'.cell? ⟨F.g,34,none⟩=some F.S.vi/\w'.cell? ⟨w.heap.size,0,none⟩=some (.int .i64 y)) (by kernel_rfl) (HY.out.s2) ?_
   intro hS
   refine wpAnyH_take (i:=0) (oi:=⟨some 21,_,_,_,_,none⟩) (v:=?_) rfl (by kernel_rfl) (by kernel_rfl) (by kernel_rfl) (fun _ _ _ h=>h) (Or.inl ⟨by rfl,?_⟩) hS ?_
   rotate_left 1
   focus (intro w hSw;clear hSw;go_simp;try (with_reducible rfl))
   simp only [Act.put,xA,xB,xC]
   refine wpAnyH_take (i:=1) (oi:=⟨some 22,_,_,_,_,none⟩) (v:=?_) rfl (by kernel_rfl) (by kernel_rfl) (by kernel_rfl) (fun _ _ _ h=>h) (Or.inl ⟨by rfl,?_⟩) hS ?_
   rotate_left 1
   focus (intro w hSw;clear hSw;go_simp;try (with_reducible rfl))
   simp only [Act.put,xA,xB,xC]
   refine wpAnyH_take (i:=2) (oi:=⟨some 23,_,_,_,_,none⟩) (v:=?_) rfl (by kernel_rfl) (by kernel_rfl) (by kernel_rfl) (fun _ _ _ h=>h) (Or.inl ⟨by rfl,?_⟩) hS ?_
   rotate_left 1
   focus (intro w hSw;clear hSw;go_simp;try (with_reducible rfl))
   simp only [Act.put,xA,xB,xC]
   refine wpAnyH_take (i:=7) (oi:=⟨some 28,_,_,_,_,none⟩) (v:=?_) rfl (by kernel_rfl) (by kernel_rfl) (by kernel_rfl) (fun _ _ _ h=>h) (Or.inl ⟨by rfl,?_⟩) hS ?_
   rotate_left 1
   focus (intro w hSw;clear hSw;go_simp;try (with_reducible rfl))
   simp only [Act.put,xA,xB,xC]
   refine wpAnyH_take (i:=3) (oi:=⟨some 24,_,_,_,_,none⟩) (v:=pt F.g 0) rfl (by kernel_rfl) (by kernel_rfl) (by kernel_rfl) (fun _ _ _ h=>h) (Or.inl ⟨by rfl,?_⟩) hS ?_
   ·intro w' hSw
    have hcc:=hSw.1
    have hcz:=World.block_lt_of_cell? w' _ hcc
    go_simp
    try (with_reducible rfl)
   simp only [Act.put,xA,xB,xC]
   refine wpAnyH_take (i:=4) (oi:=⟨some 25,_,_,_,_,none⟩) (v:=?_) rfl (by kernel_rfl) (by kernel_rfl) (by kernel_rfl) (fun _ _ _ h=>h) (Or.inl ⟨by rfl,?_⟩) hS ?_
   rotate_left 1
   focus (intro w hSw;clear hSw;go_simp;try (with_reducible rfl))
   simp only [Act.put,xA,xB,xC]
   refine wpAnyH_take (i:=5) (oi:=⟨some 26,_,_,_,_,none⟩) (v:=?_) rfl (by kernel_rfl) (by kernel_rfl) (by kernel_rfl) (fun _ _ _ h=>h) (Or.inl ⟨by rfl,?_⟩) hS ?_
   rotate_left 1
   focus (intro w hSw;clear hSw;go_simp;try (with_reducible rfl))
   simp only [Act.put,xA,xB,xC]
   refine wpAnyH_take (i:=6) (oi:=⟨some 27,_,_,_,_,none⟩) (v:=F.S.vi) rfl (by kernel_rfl) (by kernel_rfl) (by kernel_rfl) (fun _ _ _ h=>h) (Or.inl ⟨by rfl,?_⟩) hS ?_
   ·intro w' hSw
    have hcc:=hSw.2.1
    have hcz:=World.block_lt_of_cell? w' _ hcc
    go_simp
    try (with_reducible rfl)
   simp only [Act.put,xA,xB,xC]
   refine wpAnyH_take (i:=8) (oi:=⟨some 29,_,_,_,_,none⟩) (v:=.int .i64 y) rfl (by kernel_rfl) (by kernel_rfl) (by kernel_rfl) (fun _ _ _ h=>h) (Or.inl ⟨by rfl,?_⟩) hS ?_
   ·intro w' hSw
    have hcc:=hSw.2.2
    have hcz:=World.block_lt_of_cell? w' _ hcc
    go_simp
    try (with_reducible rfl)
   simp only [Act.put,xA,xB,xC]
   refine wpAnyH_ready (rs:=[9,13]) (by kernel_rfl) (by simp) ?_
   refine AllReadyH.cons (o:=⟨some 30,_,_,_,_,none⟩) rfl (fun K hK=>?_) (AllReadyH.cons (o:=⟨some 3,_,_,_,_,none⟩) rfl (fun K hK=>?_) AllReadyH.nil)
   ·go_simp
    go_at_call 85
    obtain ⟨gm,om,cm,hmm⟩:=HY.out.mm
    refine (line_ok M.video F.S.vi gm om cm y _ hmm HY8.out).mono ?_
    rintro e w2 ⟨rfl,hbw2⟩
    have HBw2:=hid (HY.out.kept' HF.out hbw2)
    clear hbw2 hmm
    try go_wp2_with fail
    refine hK.out _ _ HBw2.out.s2 (fun _=>?_)
    clear hK K hS
    have hS:=HBw2.out.s2
    try simp only [Act.put,xA,xB,xC]
    refine wpAnyH_take (i:=10) (oi:=⟨some 20,_,_,_,_,none⟩) (v:=?_) rfl (by kernel_rfl) (by kernel_rfl) (by kernel_rfl) (fun _ _ _ h=>h) (Or.inl ⟨by rfl,?_⟩) hS ?_
    rotate_left 1
    focus (intro w hSw;clear hSw;go_simp;try (with_reducible rfl))
    simp only [Act.put,xA,xB,xC]
    refine wpAnyH_take (i:=11) (oi:=⟨some 31,_,_,_,_,none⟩) (v:=?_) rfl (by kernel_rfl) (by kernel_rfl) (by kernel_rfl) (fun _ _ _ h=>h) (Or.inl ⟨by rfl,?_⟩) hS ?_
    rotate_left 1
    focus (intro w hSw;clear hSw;go_simp;try (with_reducible rfl))
    simp only [Act.put,xA,xB,xC]
    refine wpAnyH_take (i:=12) (oi:=⟨some 32,_,_,_,_,none⟩) (v:=?_) rfl (by kernel_rfl) (by kernel_rfl) (by kernel_rfl) (fun _ _ _ h=>h) (Or.inl ⟨by rfl,?_⟩) hS ?_
    rotate_left 1
    focus (intro w hSw;clear hSw;go_simp;try (with_reducible rfl))
    simp only [Act.put,xA,xB,xC]
    refine wpAnyH_ready (rs:=[13]) (by kernel_rfl) (by simp) ?_
    refine AllReadyH.cons (o:=⟨some 3,_,_,_,_,none⟩) rfl (fun K hK=>?_) AllReadyH.nil
    go_simp
    have HBA:=hid (HBw2.out.kept' HF.out (stA (st0 w2) (.cells (row16 fun _=>0).toArray 56)))
    refine hK.out _ _ (HBA.out.s2) (fun _=>?_)
    clear hK K
    try simp only [Act.put,xA,xB,xC]
    clear hS
    have hS:=HBA.out.s2
    refine wpAnyH_ready (rs:=[14]) (by kernel_rfl) (by simp) ?_
    refine AllReadyH.cons (o:=⟨none,_,_,_,_,none⟩) rfl (fun K hK=>?_) AllReadyH.nil
    refine step_store_mid rfl 56 _ _ rfl w2.heap.size 0 (row16 (px M.video y)).toArray rfl rfl ((Bx.new w2 (row16 fun _=>0) 56 (b:=w2.heap.size) rfl).there 0 16 (by rw [row16_len];decide)) info_pix (row_one _) ?_
    have HBC:=hid (LC.of HF.out HBw2.out (Bl.puts (o:=0) (stA (st0 w2) (.cells (row16 fun _=>0).toArray 56)) (Nat.le_refl _) (row16 (px M.video y))) (pix_put (Bx.new w2 (row16 fun _=>0) 56 (b:=w2.heap.size) rfl) (row16_len _)) HBw2.out.low.size)
    refine hK.out _ _ (HBC.out.s2) (fun _=>?_)
    clear hK K
    clear hS
    have hS:=HBC.out.s2
    refine wpAnyH_take (i:=15) (oi:=⟨some 4,_,_,_,_,none⟩) (v:=?_) rfl (by kernel_rfl) (by kernel_rfl) (by kernel_rfl) (fun _ _ _ h=>h) (Or.inl ⟨by rfl,?_⟩) hS ?_
    rotate_left 1
    focus (intro w hSw;clear hSw;go_simp;try (with_reducible rfl))
    simp only [Act.put,xA,xB,xC]
    refine wpAnyH_done (by kernel_rfl) ?_ _
    refine Pl.cutE (LC F N c vco vln vsm k w M y (w2.heap.size)) HBC.out ?_
    intro Z hZ
    have HZ:=hid (hZ.kept' HF.out (st0 Z).drew)
    clear hZ HBC hS
    have hS:=HZ.out.s3
    go_wp2
    refine wp_region_G (S:=fun w'=>w'.cell? ⟨c,2,none⟩=some vln/\w'.cell? ⟨w.heap.size,3,none⟩=some (.int .i64 M.b.f)/\w'.cell? ⟨w.heap.size,0,none⟩=some (.int .i64 y)/\w'.rangeAt w2.heap.size 0 (row16 (px M.video y))) (st:=17) (by kernel_rfl) ?_
    refine wpAnyG_pure (i:=0) (oi:=⟨some 33,_,_,_,_,none⟩) (v:=?_) rfl (by kernel_rfl) (by kernel_rfl) (by kernel_rfl) (by decide) (fun _ _ _ h=>h) (Or.inl ⟨by rfl,?_⟩) (fun _=>hS) ?_
    rotate_left 1
    focus (intro w hSw;go_simp;try (with_reducible rfl))
    simp only [Act.put,xA,xB,xC]
    refine wpAnyG_pure (i:=1) (oi:=⟨some 34,_,_,_,_,none⟩) (v:=?_) rfl (by kernel_rfl) (by kernel_rfl) (by kernel_rfl) (by decide) (fun _ _ _ h=>h) (Or.inl ⟨by rfl,?_⟩) (fun _=>hS) ?_
    rotate_left 1
    focus (intro w hSw;go_simp;try (with_reducible rfl))
    simp only [Act.put,xA,xB,xC]
    refine wpAnyG_pure (i:=2) (oi:=⟨some 35,_,_,_,_,none⟩) (v:=?_) rfl (by kernel_rfl) (by kernel_rfl) (by kernel_rfl) (by decide) (fun _ _ _ h=>h) (Or.inl ⟨by rfl,?_⟩) (fun _=>hS) ?_
    rotate_left 1
    focus (intro w hSw;go_simp;try (with_reducible rfl))
    simp only [Act.put,xA,xB,xC]
    refine wpAnyG_pure (i:=3) (oi:=⟨some 36,_,_,_,_,none⟩) (v:=?_) rfl (by kernel_rfl) (by kernel_rfl) (by kernel_rfl) (by decide) (fun _ _ _ h=>h) (Or.inl ⟨by rfl,?_⟩) (fun _=>hS) ?_
    rotate_left 1
    focus (intro w hSw;go_simp;try (with_reducible rfl))
    simp only [Act.put,xA,xB,xC]
    refine wpAnyG_pure (i:=4) (oi:=⟨some 37,_,_,_,_,none⟩) (v:=?_) rfl (by kernel_rfl) (by kernel_rfl) (by kernel_rfl) (by decide) (fun _ _ _ h=>h) (Or.inl ⟨by rfl,?_⟩) (fun _=>hS) ?_
    rotate_left 1
    focus (intro w hSw;go_simp;try (with_reducible rfl))
    simp only [Act.put,xA,xB,xC]
    refine wpAnyG_pure (i:=6) (oi:=⟨some 39,_,_,_,_,none⟩) (v:=?_) rfl (by kernel_rfl) (by kernel_rfl) (by kernel_rfl) (by decide) (fun _ _ _ h=>h) (Or.inl ⟨by rfl,?_⟩) (fun _=>hS) ?_
    rotate_left 1
    focus (intro w hSw;go_simp;try (with_reducible rfl))
    simp only [Act.put,xA,xB,xC]
    refine wpAnyG_pure (i:=8) (oi:=⟨some 41,_,_,_,_,none⟩) (v:=?_) rfl (by kernel_rfl) (by kernel_rfl) (by kernel_rfl) (by decide) (fun _ _ _ h=>h) (Or.inl ⟨by rfl,?_⟩) (fun _=>hS) ?_
    rotate_left 1
    focus (intro w hSw;go_simp;try (with_reducible rfl))
    simp only [Act.put,xA,xB,xC]
    refine wpAnyG_take (i:=5) (oi:=⟨some 38,_,_,_,_,none⟩) (v:=vln) rfl (by kernel_rfl) (by kernel_rfl) (by kernel_rfl) (by kernel_rfl) (by decide) (by kernel_rfl) (fun _ _ _ h=>h) (Or.inl ⟨by rfl,?_⟩) hS ?_
    ·intro w' hSw
     have hcc:=hSw.1
     have hcz:=World.block_lt_of_cell? w' _ hcc
     go_simp
     try (with_reducible rfl)
    simp only [Act.put,xA,xB,xC]
    refine wpAnyG_take (i:=7) (oi:=⟨some 40,_,_,_,_,none⟩) (v:=.int .i64 M.b.f) rfl (by kernel_rfl) (by kernel_rfl) (by kernel_rfl) (by kernel_rfl) (by decide) (by kernel_rfl) (fun _ _ _ h=>h) (Or.inl ⟨by rfl,?_⟩) hS ?_
    ·intro w' hSw
     have hcc:=hSw.2.1
     have hcz:=World.block_lt_of_cell? w' _ hcc
     go_simp
     try (with_reducible rfl)
    simp only [Act.put,xA,xB,xC]
    refine wpAnyG_take (i:=9) (oi:=⟨some 42,_,_,_,_,none⟩) (v:=.int .i64 y) rfl (by kernel_rfl) (by kernel_rfl) (by kernel_rfl) (by kernel_rfl) (by decide) (by kernel_rfl) (fun _ _ _ h=>h) (Or.inl ⟨by rfl,?_⟩) hS ?_
    ·intro w' hSw
     have hcc:=hSw.2.2.1
     have hcz:=World.block_lt_of_cell? w' _ hcc
     go_simp
     try (with_reducible rfl)
    simp only [Act.put,xA,xB,xC]
    refine wpAnyG_take (i:=10) (oi:=⟨some 43,_,_,_,_,none⟩) (v:=.agg (row16 (px M.video y)).toArray) rfl (by kernel_rfl) (by kernel_rfl) (by kernel_rfl) (by kernel_rfl) (by decide) (by kernel_rfl) (fun _ _ _ h=>h) (Or.inl ⟨by rfl,fun w' hSw=>exec_load_mid 56 _ rfl (w2.heap.size) 0 rfl (row16 (px M.video y)) _ hSw.2.2.2 Tryz.underlying56 rfl (by rw [row16_len];exact info_pix)⟩) hS ?_
    simp only [Act.put,xA,xB,xC]
    refine wpAnyG_pure (i:=11) (oi:=⟨some 44,_,_,_,_,none⟩) (v:=.agg (lineL M.b.f y (px M.video y)).toArray) rfl (by kernel_rfl) (by kernel_rfl) (by kernel_rfl) (by decide) (fun _ _ _ h=>h) (Or.inl ⟨by rfl,fun w' _=>exec_build3 58 0 1 2 _ _ _ rfl (.int .i64 M.b.f) (.int .i64 y) (.agg (row16 (px M.video y)).toArray) (.agg (lineL M.b.f y (px M.video y)).toArray) rfl rfl rfl (run_line M.b.f y (px M.video y) w')⟩) (fun _=>hS) ?_
    simp only [Act.put,xA,xB,xC]
    refine wpAnyG_one (i:=12) (o:=⟨some 45,_,_,_,_,none⟩) (by kernel_rfl) rfl (fun K hK=>?_)
    refine step_bslice rfl 47 1 0 _ rfl (.agg (lineL M.b.f y (px M.video y)).toArray) rfl (run_bline M.b.f y (px M.video y) _) ?_
    have HZ1:=hid (HZ.out.kept' HF.out (stA (st0 Z.drew) (.cells (lineL M.b.f y (px M.video y)).toArray 58)))
    refine hK.out _ _ (fun _=>HZ1.out.s3) ?_
    clear hK K
    try simp only [Act.put,xA,xB,xC]
    clear hS
    have hS:=HZ1.out.s3
    refine wpAnyG_one (i:=13) (o:=⟨some 46,_,_,_,_,none⟩) (by kernel_rfl) rfl (fun K hK=>?_)
    obtain ⟨i1,hj0,hy0,hy1,hy2⟩:=info_parts info_line
    refine step_append_lies _ (by rfl) (.tmp 38) (.tmp 45) 47 (by rfl) N 58 i1 _ 18 32 Tryz.underlying47 hj0 hy0 hy1 hy2 rfl (by omega) vln k.ln.length (lcs k.ln) rfl HZ1.out.ci.ln ⟨Z.heap.size,0,none⟩ 1 1 (lineL M.b.f y (px M.video y)) rfl (line_len _ _ _) (line_cells _ Z.drew) (line_one _ _ _) (by omega) (by unfold maxLen;have:=HL.out;omega) (by have:=HL.out;omega) (Nat.le_trans HZ1.out.ci.i.N (Nat.le_refl _)) _ rfl ?_
    intro g1 cap1 W3 hown1 hg1 hat1 hz1
    have HO1:=hid hown1
    have HG1:=hid hg1
    have HS3:=hid (HZ1.out.grown hg1)
    clear hown1 hg1 hat1 hz1
    refine hK.out _ _ (fun _=>HS3.out.1) ?_
    clear hK K
    try simp only [Act.put,xA,xB,xC]
    clear hS
    have hS:=HS3.out.1
    refine wpAnyG_pure (i:=14) (oi:=⟨some 47,_,_,_,_,none⟩) (v:=?_) rfl (by kernel_rfl) (by kernel_rfl) (by kernel_rfl) (by decide) (fun _ _ _ h=>h) (Or.inl ⟨by rfl,?_⟩) (fun _=>hS) ?_
    rotate_left 1
    focus (intro w hSw;go_simp;try (with_reducible rfl))
    simp only [Act.put,xA,xB,xC]
    refine wpAnyG_pure (i:=15) (oi:=⟨some 48,_,_,_,_,none⟩) (v:=?_) rfl (by kernel_rfl) (by kernel_rfl) (by kernel_rfl) (by decide) (fun _ _ _ h=>h) (Or.inl ⟨by rfl,?_⟩) (fun _=>hS) ?_
    rotate_left 1
    focus (intro w hSw;go_simp;try (with_reducible rfl))
    simp only [Act.put,xA,xB,xC]
    refine wpAnyG_pure (i:=16) (oi:=⟨some 49,_,_,_,_,none⟩) (v:=?_) rfl (by kernel_rfl) (by kernel_rfl) (by kernel_rfl) (by decide) (fun _ _ _ h=>h) (Or.inl ⟨by rfl,?_⟩) (fun _=>hS) ?_
    rotate_left 1
    focus (intro w hSw;go_simp;try (with_reducible rfl))
    simp only [Act.put,xA,xB,xC]
    obtain ⟨q2,qz,qf⟩:=HS3.out.2
    refine wpAnyG_one (i:=17) (o:=⟨none,_,_,_,_,none⟩) (by kernel_rfl) rfl (fun K hK=>?_)
    go_simp
    refine hK.out _ _ (fun h=>by simp at h) ?_
    clear hK K
    refine wpAnyG_done (by kernel_rfl) ?_ _
    obtain ⟨r1,r2⟩:=LC.fin HF.out HZ1.out HO1.out HG1.out H.out.i.big
    refine Pl.cutE (fun V=>CI F N c vco (.slice (some ⟨g1,0,none⟩) (k.ln.length+1) cap1) vsm V { k with ln:=k.ln++[⟨M.b.f,y,px M.video y⟩] }/\Below F.B w V) ⟨r1,r2⟩ ?_
    rintro V ⟨hV1,hV2⟩
    have HV1:=hid hV1
    have HV2:=hid hV2
    clear hV1 hV2 r1 r2 HZ1 HO1 HG1 HS3 HZ q2 qz qf hS
    go_wp2
    go_end0
    exact ⟨rfl,_,HV1.out,HV2.out⟩
   ·go_simp
    have HBA:=hid (HY.out.kept' HF.out (stA (st0 Y.drew) (.cells (row16 fun _=>0).toArray 56)))
    have HBN:=hid (Bx.new Y.drew (row16 fun _=>0) 56 (b:=Y.heap.size) rfl)
    refine hK.out _ _ HBA.out.s2 (fun _=>?_)
    clear hK K hS
    have hS:=HBA.out.s2
    try simp only [Act.put,xA,xB,xC]
    refine wpAnyH_ready (rs:=[9]) (by kernel_rfl) (by simp) ?_
    refine AllReadyH.cons (o:=⟨some 30,_,_,_,_,none⟩) rfl (fun K hK=>?_) AllReadyH.nil
    go_simp
    go_at_call 85
    obtain ⟨gm,om,cm,hmm⟩:=HBA.out.mm
    refine (line_ok M.video F.S.vi gm om cm y _ hmm HY8.out).mono ?_
    rintro e w2 ⟨rfl,hbw2⟩
    have HBw2:=hid (HBA.out.kept' HF.out hbw2)
    have HQw2:=hid hbw2
    clear hbw2 hmm
    try go_wp2_with fail
    have HBO:=hid (HBN.out.kept HQw2.out)
    refine hK.out _ _ (HBw2.out.s2) (fun _=>?_)
    clear hK K
    try simp only [Act.put,xA,xB,xC]
    clear hS
    have hS:=HBw2.out.s2
    refine wpAnyH_take (i:=10) (oi:=⟨some 20,_,_,_,_,none⟩) (v:=?_) rfl (by kernel_rfl) (by kernel_rfl) (by kernel_rfl) (fun _ _ _ h=>h) (Or.inl ⟨by rfl,?_⟩) hS ?_
    rotate_left 1
    focus (intro w hSw;clear hSw;go_simp;try (with_reducible rfl))
    simp only [Act.put,xA,xB,xC]
    refine wpAnyH_take (i:=11) (oi:=⟨some 31,_,_,_,_,none⟩) (v:=?_) rfl (by kernel_rfl) (by kernel_rfl) (by kernel_rfl) (fun _ _ _ h=>h) (Or.inl ⟨by rfl,?_⟩) hS ?_
    rotate_left 1
    focus (intro w hSw;clear hSw;go_simp;try (with_reducible rfl))
    simp only [Act.put,xA,xB,xC]
    refine wpAnyH_take (i:=12) (oi:=⟨some 32,_,_,_,_,none⟩) (v:=?_) rfl (by kernel_rfl) (by kernel_rfl) (by kernel_rfl) (fun _ _ _ h=>h) (Or.inl ⟨by rfl,?_⟩) hS ?_
    rotate_left 1
    focus (intro w hSw;clear hSw;go_simp;try (with_reducible rfl))
    simp only [Act.put,xA,xB,xC]
    refine wpAnyH_ready (rs:=[14]) (by kernel_rfl) (by simp) ?_
    refine AllReadyH.cons (o:=⟨none,_,_,_,_,none⟩) rfl (fun K hK=>?_) AllReadyH.nil
    refine step_store_mid rfl 56 _ _ rfl Y.heap.size 0 (row16 (px M.video y)).toArray rfl rfl (HBO.out.there 0 16 (by rw [row16_len];decide)) info_pix (row_one _) ?_
    have HBC:=hid (LC.of HF.out HY.out (Bl.puts (o:=0) (stp (stA (st0 Y.drew) (.cells (row16 fun _=>0).toArray 56)) HQw2.out) (Nat.le_refl _) (row16 (px M.video y))) (pix_put HBO.out (row16_len _)) HLY.out.size)
    refine hK.out _ _ (HBC.out.s2) (fun _=>?_)
    clear hK K
    clear hS
    have hS:=HBC.out.s2
    refine wpAnyH_take (i:=15) (oi:=⟨some 4,_,_,_,_,none⟩) (v:=?_) rfl (by kernel_rfl) (by kernel_rfl) (by kernel_rfl) (fun _ _ _ h=>h) (Or.inl ⟨by rfl,?_⟩) hS ?_
    rotate_left 1
    focus (intro w hSw;clear hSw;go_simp;try (with_reducible rfl))
    simp only [Act.put,xA,xB,xC]
    refine wpAnyH_done (by kernel_rfl) ?_ _
    refine Pl.cutE (LC F N c vco vln vsm k w M y (Y.heap.size)) HBC.out ?_
    intro Z hZ
    have HZ:=hid (hZ.kept' HF.out (st0 Z).drew)
    clear hZ HBC hS
    have hS:=HZ.out.s3
    go_wp2
    refine wp_region_G (S:=fun w'=>w'.cell? ⟨c,2,none⟩=some vln/\w'.cell? ⟨w.heap.size,3,none⟩=some (.int .i64 M.b.f)/\w'.cell? ⟨w.heap.size,0,none⟩=some (.int .i64 y)/\w'.rangeAt Y.heap.size 0 (row16 (px M.video y))) (st:=17) (by kernel_rfl) ?_
    refine wpAnyG_pure (i:=0) (oi:=⟨some 33,_,_,_,_,none⟩) (v:=?_) rfl (by kernel_rfl) (by kernel_rfl) (by kernel_rfl) (by decide) (fun _ _ _ h=>h) (Or.inl ⟨by rfl,?_⟩) (fun _=>hS) ?_
    rotate_left 1
    focus (intro w hSw;go_simp;try (with_reducible rfl))
    simp only [Act.put,xA,xB,xC]
    refine wpAnyG_pure (i:=1) (oi:=⟨some 34,_,_,_,_,none⟩) (v:=?_) rfl (by kernel_rfl) (by kernel_rfl) (by kernel_rfl) (by decide) (fun _ _ _ h=>h) (Or.inl ⟨by rfl,?_⟩) (fun _=>hS) ?_
    rotate_left 1
    focus (intro w hSw;go_simp;try (with_reducible rfl))
    simp only [Act.put,xA,xB,xC]
    refine wpAnyG_pure (i:=2) (oi:=⟨some 35,_,_,_,_,none⟩) (v:=?_) rfl (by kernel_rfl) (by kernel_rfl) (by kernel_rfl) (by decide) (fun _ _ _ h=>h) (Or.inl ⟨by rfl,?_⟩) (fun _=>hS) ?_
    rotate_left 1
    focus (intro w hSw;go_simp;try (with_reducible rfl))
    simp only [Act.put,xA,xB,xC]
    refine wpAnyG_pure (i:=3) (oi:=⟨some 36,_,_,_,_,none⟩) (v:=?_) rfl (by kernel_rfl) (by kernel_rfl) (by kernel_rfl) (by decide) (fun _ _ _ h=>h) (Or.inl ⟨by rfl,?_⟩) (fun _=>hS) ?_
    rotate_left 1
    focus (intro w hSw;go_simp;try (with_reducible rfl))
    simp only [Act.put,xA,xB,xC]
    refine wpAnyG_pure (i:=4) (oi:=⟨some 37,_,_,_,_,none⟩) (v:=?_) rfl (by kernel_rfl) (by kernel_rfl) (by kernel_rfl) (by decide) (fun _ _ _ h=>h) (Or.inl ⟨by rfl,?_⟩) (fun _=>hS) ?_
    rotate_left 1
    focus (intro w hSw;go_simp;try (with_reducible rfl))
    simp only [Act.put,xA,xB,xC]
    refine wpAnyG_pure (i:=6) (oi:=⟨some 39,_,_,_,_,none⟩) (v:=?_) rfl (by kernel_rfl) (by kernel_rfl) (by kernel_rfl) (by decide) (fun _ _ _ h=>h) (Or.inl ⟨by rfl,?_⟩) (fun _=>hS) ?_
    rotate_left 1
    focus (intro w hSw;go_simp;try (with_reducible rfl))
    simp only [Act.put,xA,xB,xC]
    refine wpAnyG_pure (i:=8) (oi:=⟨some 41,_,_,_,_,none⟩) (v:=?_) rfl (by kernel_rfl) (by kernel_rfl) (by kernel_rfl) (by decide) (fun _ _ _ h=>h) (Or.inl ⟨by rfl,?_⟩) (fun _=>hS) ?_
    rotate_left 1
    focus (intro w hSw;go_simp;try (with_reducible rfl))
    simp only [Act.put,xA,xB,xC]
    refine wpAnyG_take (i:=5) (oi:=⟨some 38,_,_,_,_,none⟩) (v:=vln) rfl (by kernel_rfl) (by kernel_rfl) (by kernel_rfl) (by kernel_rfl) (by decide) (by kernel_rfl) (fun _ _ _ h=>h) (Or.inl ⟨by rfl,?_⟩) hS ?_
    ·intro w' hSw
     have hcc:=hSw.1
     have hcz:=World.block_lt_of_cell? w' _ hcc
     go_simp
     try (with_reducible rfl)
    simp only [Act.put,xA,xB,xC]
    refine wpAnyG_take (i:=7) (oi:=⟨some 40,_,_,_,_,none⟩) (v:=.int .i64 M.b.f) rfl (by kernel_rfl) (by kernel_rfl) (by kernel_rfl) (by kernel_rfl) (by decide) (by kernel_rfl) (fun _ _ _ h=>h) (Or.inl ⟨by rfl,?_⟩) hS ?_
    ·intro w' hSw
     have hcc:=hSw.2.1
     have hcz:=World.block_lt_of_cell? w' _ hcc
     go_simp
     try (with_reducible rfl)
    simp only [Act.put,xA,xB,xC]
    refine wpAnyG_take (i:=9) (oi:=⟨some 42,_,_,_,_,none⟩) (v:=.int .i64 y) rfl (by kernel_rfl) (by kernel_rfl) (by kernel_rfl) (by kernel_rfl) (by decide) (by kernel_rfl) (fun _ _ _ h=>h) (Or.inl ⟨by rfl,?_⟩) hS ?_
    ·intro w' hSw
     have hcc:=hSw.2.2.1
     have hcz:=World.block_lt_of_cell? w' _ hcc
     go_simp
     try (with_reducible rfl)
    simp only [Act.put,xA,xB,xC]
    refine wpAnyG_take (i:=10) (oi:=⟨some 43,_,_,_,_,none⟩) (v:=.agg (row16 (px M.video y)).toArray) rfl (by kernel_rfl) (by kernel_rfl) (by kernel_rfl) (by kernel_rfl) (by decide) (by kernel_rfl) (fun _ _ _ h=>h) (Or.inl ⟨by rfl,fun w' hSw=>exec_load_mid 56 _ rfl (Y.heap.size) 0 rfl (row16 (px M.video y)) _ hSw.2.2.2 Tryz.underlying56 rfl (by rw [row16_len];exact info_pix)⟩) hS ?_
    simp only [Act.put,xA,xB,xC]
    refine wpAnyG_pure (i:=11) (oi:=⟨some 44,_,_,_,_,none⟩) (v:=.agg (lineL M.b.f y (px M.video y)).toArray) rfl (by kernel_rfl) (by kernel_rfl) (by kernel_rfl) (by decide) (fun _ _ _ h=>h) (Or.inl ⟨by rfl,fun w' _=>exec_build3 58 0 1 2 _ _ _ rfl (.int .i64 M.b.f) (.int .i64 y) (.agg (row16 (px M.video y)).toArray) (.agg (lineL M.b.f y (px M.video y)).toArray) rfl rfl rfl (run_line M.b.f y (px M.video y) w')⟩) (fun _=>hS) ?_
    simp only [Act.put,xA,xB,xC]
    refine wpAnyG_one (i:=12) (o:=⟨some 45,_,_,_,_,none⟩) (by kernel_rfl) rfl (fun K hK=>?_)
    refine step_bslice rfl 47 1 0 _ rfl (.agg (lineL M.b.f y (px M.video y)).toArray) rfl (run_bline M.b.f y (px M.video y) _) ?_
    have HZ1:=hid (HZ.out.kept' HF.out (stA (st0 Z.drew) (.cells (lineL M.b.f y (px M.video y)).toArray 58)))
    refine hK.out _ _ (fun _=>HZ1.out.s3) ?_
    clear hK K
    try simp only [Act.put,xA,xB,xC]
    clear hS
    have hS:=HZ1.out.s3
    refine wpAnyG_one (i:=13) (o:=⟨some 46,_,_,_,_,none⟩) (by kernel_rfl) rfl (fun K hK=>?_)
    obtain ⟨i1,hj0,hy0,hy1,hy2⟩:=info_parts info_line
    refine step_append_lies _ (by rfl) (.tmp 38) (.tmp 45) 47 (by rfl) N 58 i1 _ 18 32 Tryz.underlying47 hj0 hy0 hy1 hy2 rfl (by omega) vln k.ln.length (lcs k.ln) rfl HZ1.out.ci.ln ⟨Z.heap.size,0,none⟩ 1 1 (lineL M.b.f y (px M.video y)) rfl (line_len _ _ _) (line_cells _ Z.drew) (line_one _ _ _) (by omega) (by unfold maxLen;have:=HL.out;omega) (by have:=HL.out;omega) (Nat.le_trans HZ1.out.ci.i.N (Nat.le_refl _)) _ rfl ?_
    intro g1 cap1 W3 hown1 hg1 hat1 hz1
    have HO1:=hid hown1
    have HG1:=hid hg1
    have HS3:=hid (HZ1.out.grown hg1)
    clear hown1 hg1 hat1 hz1
    refine hK.out _ _ (fun _=>HS3.out.1) ?_
    clear hK K
    try simp only [Act.put,xA,xB,xC]
    clear hS
    have hS:=HS3.out.1
    refine wpAnyG_pure (i:=14) (oi:=⟨some 47,_,_,_,_,none⟩) (v:=?_) rfl (by kernel_rfl) (by kernel_rfl) (by kernel_rfl) (by decide) (fun _ _ _ h=>h) (Or.inl ⟨by rfl,?_⟩) (fun _=>hS) ?_
    rotate_left 1
    focus (intro w hSw;go_simp;try (with_reducible rfl))
    simp only [Act.put,xA,xB,xC]
    refine wpAnyG_pure (i:=15) (oi:=⟨some 48,_,_,_,_,none⟩) (v:=?_) rfl (by kernel_rfl) (by kernel_rfl) (by kernel_rfl) (by decide) (fun _ _ _ h=>h) (Or.inl ⟨by rfl,?_⟩) (fun _=>hS) ?_
    rotate_left 1
    focus (intro w hSw;go_simp;try (with_reducible rfl))
    simp only [Act.put,xA,xB,xC]
    refine wpAnyG_pure (i:=16) (oi:=⟨some 49,_,_,_,_,none⟩) (v:=?_) rfl (by kernel_rfl) (by kernel_rfl) (by kernel_rfl) (by decide) (fun _ _ _ h=>h) (Or.inl ⟨by rfl,?_⟩) (fun _=>hS) ?_
    rotate_left 1
    focus (intro w hSw;go_simp;try (with_reducible rfl))
    simp only [Act.put,xA,xB,xC]
    obtain ⟨q2,qz,qf⟩:=HS3.out.2
    refine wpAnyG_one (i:=17) (o:=⟨none,_,_,_,_,none⟩) (by kernel_rfl) rfl (fun K hK=>?_)
    go_simp
    refine hK.out _ _ (fun h=>by simp at h) ?_
    clear hK K
    refine wpAnyG_done (by kernel_rfl) ?_ _
    obtain ⟨r1,r2⟩:=LC.fin HF.out HZ1.out HO1.out HG1.out H.out.i.big
    refine Pl.cutE (fun V=>CI F N c vco (.slice (some ⟨g1,0,none⟩) (k.ln.length+1) cap1) vsm V { k with ln:=k.ln++[⟨M.b.f,y,px M.video y⟩] }/\Below F.B w V) ⟨r1,r2⟩ ?_
    rintro V ⟨hV1,hV2⟩
    have HV1:=hid hV1
    have HV2:=hid hV2
    clear hV1 hV2 r1 r2 HZ1 HO1 HG1 HS3 HZ q2 qz qf hS
    go_wp2
    go_end0
    exact ⟨rfl,_,HV1.out,HV2.out⟩
  ·have e0:M.line=[]:=if_neg (fun e=>h8 e.2)
   rw [e0,List.append_nil]
   have h8':(8:Int)<=M.b.l:=by omega
   clear hF h hl hB hM e0 h8
   go_enter Tryz.func50,Tryz.ntmps50
   go_wp2
   exact bodyPost_ret (v:=.tuple #[]) (by simp [results,Tryz.results50,go_sem]) rfl ⟨rfl,vln,H.out.keep HF.out (stA (st0 w) _),(stA (st0 w) _).mono H.out.i.big⟩
 ·have e0:M.line=[]:=if_neg (fun e=>ha e.1)
  rw [e0,List.append_nil]
  have ha':(M.b.a == 0)=false:=by simpa using ha
  clear hF h hl hB hM e0 hbl
  go_enter Tryz.func50,Tryz.ntmps50
  go_wp2
  exact bodyPost_ret (v:=.tuple #[]) (by simp [results,Tryz.results50,go_sem]) rfl ⟨rfl,vln,H.out.keep HF.out (stA (st0 w) _),(stA (st0 w) _).mono H.out.i.big⟩
end
end Go.Proofs.YtbhpfkjfijdmaaaGreatDoor
namespace Go.Proofs.YtbhpfkjfijdmaaaGreatDoor.C
set_option linter.unusedVariables false
set_option maxRecDepth 100000
set_option maxHeartbeats 6400000
section
variable {σ : Type} {m : Mem σ} {P : σ -> Prop}
theorem keeps_rdw (h1:∀ s a,P s->P (m.rd s a).2) (s:σ) (a:Int) (h:P s):P (m.rdw s a).2:=by
 unfold Mem.rdw
 exact h1 _ _ (h1 _ _ h)
theorem keeps_wrw (h2:∀ s a b,P s->P (m.wr s a b)) (s:σ) (a n:Int) (h:P s):P (m.wrw s a n):=by
 unfold Mem.wrw
 exact h2 _ _ _ (h2 _ _ _ h)
theorem keeps_leave (h1:∀ s a,P s->P (m.rd s a).2) (h2:∀ s a b,P s->P (m.wr s a b)) (x:St σ) (a:Int) (h:P x.s):P (leave m x a).s:=by
 have e1:P (push m x x.c.PC).s:=keeps_wrw h2 _ _ _ h
 have e2:P (push m (push m x x.c.PC) (sign (push m x x.c.PC).c)).s:=keeps_wrw h2 _ _ _ e1
 exact keeps_rdw h1 _ _ e2
theorem keeps_act (h1:∀ s a,P s->P (m.rd s a).2) (h2:∀ s a b,P s->P (m.wr s a b)) (x:St σ) (k:Nat) (d s n w:Int) (h:P x.s):P (act m x k d s n w).s:=by
 have u2:∀ a n,P (m.wrw x.s a n):=fun a n=>keeps_wrw h2 _ _ _ h
 have u1:∀ a n,P (m.wr x.s a n):=fun a n=>h2 _ _ _ h
 have u3:∀ a,P (m.rdw x.s a).2:=fun a=>keeps_rdw h1 _ _ h
 have u4:∀ a,P (m.rd x.s a).2:=fun a=>h1 _ _ h
 have u5:∀ a b,P (m.rdw (m.rdw x.s a).2 b).2:=fun a b=>keeps_rdw h1 _ _ (u3 a)
 unfold act
 split
 ·exact h
 ·exact h
 ·exact u3 _
 ·exact u2 _ _
 ·exact u4 _
 ·exact u1 _ _
 ·exact h
 ·exact h
 ·exact h
 ·exact h
 ·exact h
 ·exact h
 ·exact h
 ·exact h
 ·exact h
 ·exact h
 ·split <;> exact h
 ·split <;> exact h
 ·split <;> exact h
 ·exact u2 _ _
 ·exact u3 _
 ·exact u2 _ _
 ·exact u3 _
 ·exact h
 ·exact h
 ·exact u5 _ _
 ·exact h
 ·exact h
 ·split <;> exact h
 ·exact keeps_leave h1 h2 x 4 h
 ·exact h
theorem keeps_step (h1:∀ s a,P s->P (m.rd s a).2) (h2:∀ s a b,P s->P (m.wr s a b)) (c:Cpu) (s:σ) (r:Bool) (h:P s):P (step m c s r).s:=by
 unfold step
 split
 ·exact keeps_leave h1 h2 ⟨c,s,0⟩ 2 h
 ·split
  ·exact h
  ·unfold order
   refine keeps_act h1 h2 _ _ _ _ _ _ ?_
   show P (behind m c s).s
   unfold behind
   simp only
   split
   ·exact keeps_rdw h1 _ _ (keeps_rdw h1 _ _ h)
   ·exact keeps_rdw h1 _ _ h
end
end Go.Proofs.YtbhpfkjfijdmaaaGreatDoor.C
namespace Go.Proofs.YtbhpfkjfijdmaaaGreatDoor
open Go.ChangeShapes Go.WideShapes Go.ChangeAt Go.RowKit
set_option linter.unusedVariables false
set_option maxRecDepth 100000
set_option maxHeartbeats 6400000
section
variable {F : Fx} {N c : Nat} {vco vln vsm v' : Value} {w w1 : World} {k : Cs} {s s' : Bst}
theorem stepMain_l (s:Bst):s.stepMain.l=s.l:=by
 unfold Bst.stepMain
 split
 ·rfl
 ·show (C.step mainMem s.M.main ⟨s.M,0,s.l⟩ (s.M.t.g || s.M.b.g)).s.l=s.l
  exact C.keeps_step (m:=mainMem) (P:=fun x=>x.l=s.l) (fun x a h=>h) (fun x a b h=>h) _ _ _ rfl
theorem stepAux_l (hF:Fb F N) (s:Bst) (h:s.l.length<=1000000):s.stepAux.l.length<=s.l.length+4:=by
 unfold Bst.stepAux
 split
 ·omega
 ·show (C.step auxMem s.M.aux s s.M.rung).s.l.length<=s.l.length+4
  have hf:=C.fuel_step (aux_rs hF).frd (aux_rs hF).fwr s.M.aux s s.M.rung
  have h0:1000000001 - s.l.length<=1000000001 - (C.step auxMem s.M.aux s s.M.rung).s.l.length+4:=hf
  omega
theorem coming_ok (M:Mach):∀ (l:List Inp),(∀ x ∈ l,x.ok)->∀ x ∈ M.coming l,x.ok
 | [],h=>h
 | y :: l,h=>by
  unfold Mach.coming
  split
  ·exact coming_ok M l (fun x hx=>h x (List.mem_cons_of_mem _ hx))
  ·exact h
theorem Lk.now (hF:Fb F N) (h:CI F N c vco vln vsm w k) (h1:k.ln.length<=100000) (h2:k.sm.length<=100000) (h3:k.s.l.length<=1000000):Calls Tryz.prog 26 #[pt c 0] w fun e w'=>e = .returned (.tuple #[]) /\ ∃ vco' vln' vsm',CI F N c vco' vln' vsm' w' k.now/\Below F.B w w':=by
 have HF:=hid hF
 have H:=hid h
 have H1:=hid h1
 have H2:=hid h2
 have H3:=hid h3
 clear hF h h1 h2 h3
 go_enter Tryz.func26,Tryz.ntmps26
 go_wp2_with (first
  | (go_at_call 49;refine (Lk.press (M:=k.s.M) (n:=k.s.n) (l:=k.s.l) HF.out H.out.i H.out.cb H.out.co H.out.ok).mono ?_;rintro e w1 ⟨rfl,v1,hx1⟩;have HC1:=hid (H.out.pressed hx1 (coming_ok _ _ H.out.ok));have HB1:=hid hx1.km.m.below;clear hx1)
  | (go_at_call 50;refine (Lk.showLine HF.out HC1.out H1.out).mono ?_;rintro e w2 ⟨rfl,v2,hx2,hb2⟩;have HC2:=hid hx2;have HB2:=hid hb2;clear hx2 hb2)
  | (go_at_call 51;refine (Lk.showSample HF.out HC2.out H2.out).mono ?_;rintro e w3 ⟨rfl,v3,hx3,hb3⟩;have HC3:=hid hx3;have HB3:=hid hb3;clear hx3 hb3)
  | (go_at_call 52;refine (Lk.stepMain HF.out HC3.out.i HC3.out.cb).mono ?_;rintro e w4 ⟨rfl,hm4⟩;have HC4:=hid (HC3.out.step hm4);have HB4:=hid hm4.m.below;clear hm4)
  | (go_at_call 53;refine (Lk.stepAux HF.out HC4.out.i HC4.out.cb (by show (Bst.stepMain _).l.length<=1000000;rw [stepMain_l];exact H3.out)).mono ?_;rintro e w5 ⟨rfl,hm5⟩;have HC5:=hid (HC4.out.step hm5);have HB5:=hid hm5.m.below;clear hm5))
 go_end0
 exact ⟨rfl,v1,v2,v3,HC5.out,(((HB1.out.trans HB2.out).trans HB3.out).trans HB4.out).trans HB5.out⟩
end
end Go.Proofs.YtbhpfkjfijdmaaaGreatDoor
