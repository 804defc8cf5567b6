/-
  Parts of a proof, joined.
-/
import Derived.Test.YtbennamieealbaaGreatDoorZg01
import Derived.Test.YtbennamieealbaaGreatDoorZg33
import Derived.Test.YtbennamieealbaaGreatDoorZg29
set_option linter.unusedVariables false
set_option maxRecDepth 100000
set_option maxHeartbeats 6400000
namespace Go.Proofs.YtbennamieealbaaGreatDoor
open Go.ChangeShapes Go.WideShapes Go.ChangeAt Go.RowKit
abbrev lineL (f:Int) (y:Nat) (r:Nat->Nat):List Value:=[Value.int .i64 f,Value.int .i64 y]++row16 r
theorem zc6:(Tryz.prog.info? 60).map (·.size)=some 16:=by kernel_rfl
theorem row_one (f:Nat->Nat):(row16 f).toArray.all (·.oneCell')=true:=all_oneCell_toArray (λv hv=>by
 unfold row16 at hv
 obtain ⟨x,_,rfl⟩:=List.mem_map.1 hv
 rfl)
theorem zg7 (f:Int) (y:Nat) (r:Nat->Nat) (w:World):(Instr.build 62 #[(0,.int .i64 f),(1,.int .i64 y),(2,.agg (row16 r).toArray)]).run Tryz.prog w = .ok (.agg (lineL f y r).toArray) w:=by kernel_rfl
theorem zf1 (f:Int) (y:Nat) (r:Nat->Nat) (w:World):(Instr.buildSlice 47 1 #[(0,.agg (lineL f y r).toArray)]).run Tryz.prog w = .ok (.slice (some ⟨w.heap.size,0,none⟩) 1 1) (w.alloc (.cells (lineL f y r).toArray 62)):=by kernel_rfl
theorem zbM:(Tryz.prog.info? 62).map (λi=>(i.zero,i.size,i.bytes))=some (some (.agg (lineL 0 0 λ_=>0).toArray),18,32):=by kernel_rfl
theorem zdz {P:Program} {ops:Array Oper} {op:Oper} {a:Act} {w w1:World} {K:Act->World->Prop} {Q:Exit->Act->World->Prop} {E:Prop} {v:Value} (hgd:op.guard=none) (ty:TypeId) (n i:Nat) (x:Operand) (ho:op.op = .buildSlice ty n #[(i,x)]) (xv:Value) (hx:a.eval x=xv)
 (hr:(Instr.buildSlice ty n #[(i,xv)]).run P w = .ok v w1) (h:K (a.put op.dst v) w1):if Region.wanted op (yielded ops a.tmps)=true then Oper.wp P op a w K Q else E:=by
 rw [if_pos (by simp [Region.wanted,hgd])]
 unfold Oper.wp
 have:(execOp a.eval op).run P w = .ok (.value v) w1:=by
  unfold execOp
  simp only [ho,List.map_toArray,List.map_cons,List.map_nil,hx,Sem.run_bind,hr,Result.andThen_ok,Sem.run_pure]
 rw [this]
 exact h
theorem zg8 (f:Int) (y:Nat) (r:Nat->Nat):(lineL f y r).length=1*18:=by simp [zaq]
theorem zex (L:List Value) (w:World) {t:TypeId}:∀ j u,L[j]? = some u->(w.alloc (.cells L.toArray t)).cell? ((⟨w.heap.size,0,none⟩:Addr).add j)=some u:=λj u hj=>by
 rw [addr_add,Nat.zero_add]
 exact (Bx.new w L t (b:=w.heap.size) rfl).at j u hj
theorem zg9 (f:Int) (y:Nat) (r:Nat->Nat):∀ u∈(lineL f y r),u.oneCell'=true:=λu hu=>by
 rcases List.mem_append.1 hu with h|h
 ·simp only [List.mem_cons,List.not_mem_nil,or_false] at h
  rcases h with rfl|rfl <;> rfl
 ·unfold row16 at h
  obtain ⟨x,_,rfl⟩:=List.mem_map.1 h
  rfl
section
variable {F : Fx} {N c : Nat} {vco vln vsm v' : Value} {w w1 : World} {k : Cs} {s' : Bst} {M : Mach} {y b pb : Nat} {Y Y' : World}
theorem zj9 {g cap:Nat} (h:w1.ownsRow N 62 18 (.slice (some ⟨g,0,none⟩) (k.ln.length+1) cap) (k.ln.length+1) (lcs k.ln++lineL M.b.f y (px M.video y))):w1.ownsRow N 62 18 (.slice (some ⟨g,0,none⟩) (k.ln++[(⟨M.b.f,y,px M.video y⟩:Lin)]).length cap) (k.ln++[(⟨M.b.f,y,px M.video y⟩:Lin)]).length (lcs (k.ln++[(⟨M.b.f,y,px M.video y⟩:Lin)])):=by
 have e1:(k.ln++[(⟨M.b.f,y,px M.video y⟩:Lin)]).length=k.ln.length+1:=by simp
 have e2:lcs (k.ln++[(⟨M.b.f,y,px M.video y⟩:Lin)])=lcs k.ln++lineL M.b.f y (px M.video y):=by rw [zgy];simp [lcs]
 rw [e1,e2]
 exact h
structure LB (F : Fx) (N c : Nat) (vco vln vsm : Value) (k : Cs) (w : World) (M : Mach) (y : Nat) (Y : World) : Prop where
 ci:CI F N c vco vln vsm Y k
 low:Below w.heap.size w Y
 bx:Bx Y w.heap.size [.int .i64 y,.int .i64 M.b.a,.bool M.b.g,.int .i64 M.b.f]
 m:k.s.M=M
 lo:∀ j,vln.ownBlock=some j->j<w.heap.size
structure LC (F : Fx) (N c : Nat) (vco vln vsm : Value) (k : Cs) (w : World) (M : Mach) (y pb : Nat) (Y : World) : Prop extends LB F N c vco vln vsm k w M y Y where
 pix:Bx Y pb (row16 (px M.video y))
 pz:w.heap.size<=pb
theorem LB.kept' (hF:Fb F N) (h:LB F N c vco vln vsm k w M y Y) (hb:Below Y.heap.size Y Y'):LB F N c vco vln vsm k w M y Y':=⟨h.ci.keep hF hb,stp h.low hb,h.bx.kept hb,h.m,h.lo⟩
theorem LC.kept' (hF:Fb F N) (h:LC F N c vco vln vsm k w M y pb Y) (hb:Below Y.heap.size Y Y'):LC F N c vco vln vsm k w M y pb Y':=⟨h.toLB.kept' hF hb,h.pix.kept hb,h.pz⟩
theorem LB.mm (h:LB F N c vco vln vsm k w M y Y):∃ g o cap,Mm Y M.video F.S.vi g o cap:=by
 obtain ⟨v,hB⟩:=h.ci.i.bd
 rw [h.m] at hB
 exact Mm.of hB.vi.slice hB.fit.video
theorem LB.s2 (h:LB F N c vco vln vsm k w M y Y):Y.cell? ⟨c,0,none⟩=some (pt F.g 0)/\Y.cell? ⟨F.g,34,none⟩=some F.S.vi/\Y.cell? ⟨w.heap.size,0,none⟩=some (.int .i64 y):=by
 obtain ⟨v,hB⟩:=h.ci.i.bd
 exact ⟨h.ci.cb.bx.at 0 _ rfl,hB.at 34 _ rfl,h.bx.at 0 _ rfl⟩
theorem LC.s2 (h:LC F N c vco vln vsm k w M y pb Y):Y.cell? ⟨c,0,none⟩=some (pt F.g 0)/\Y.cell? ⟨F.g,34,none⟩=some F.S.vi/\Y.cell? ⟨w.heap.size,0,none⟩=some (.int .i64 y):=h.toLB.s2
theorem LC.s3 (h:LC F N c vco vln vsm k w M y pb Y):Y.cell? ⟨c,2,none⟩=some vln/\Y.cell? ⟨w.heap.size,3,none⟩=some (.int .i64 M.b.f)/\Y.cell? ⟨w.heap.size,0,none⟩=some (.int .i64 y)/\Y.rangeAt pb 0 (row16 (px M.video y)) :=
 ⟨h.ci.cb.bx.at 2 _ rfl,h.bx.at 3 _ rfl,h.bx.at 0 _ rfl,h.pix.c⟩
theorem LC.of (hF:Fb F N) (h:LB F N c vco vln vsm k w M y Y) (hb:Below Y.heap.size Y Y') (hx:Bx Y' pb (row16 (px M.video y))) (hp:w.heap.size<=pb):LC F N c vco vln vsm k w M y pb Y':=⟨h.kept' hF hb,hx,hp⟩
theorem zka {W:World} {L:List Value} {f:Nat->Nat} (h:Bx W pb L) (hl:L.length=16):Bx (W.setCells pb 0 (row16 f)) pb (row16 f):=by
 have:=h.puts 0 (row16 f) (by rw [zaq];omega)
 rw [zau _ _ (by rw [zaq,hl])] at this
 exact this
theorem LC.grown {W3:World} (h:LC F N c vco vln vsm k w M y pb Y) (hg:Y.grownBy W3 vln.ownBlock) :
 (W3.cell? ⟨c,2,none⟩=some vln/\W3.cell? ⟨w.heap.size,3,none⟩=some (.int .i64 M.b.f)/\W3.cell? ⟨w.heap.size,0,none⟩=some (.int .i64 y)/\W3.rangeAt pb 0 (row16 (px M.video y)))/\W3.cell? ⟨c,2,none⟩=some vln/\c<W3.heap.size/\W3.frozen? ⟨c,2,none⟩=false:=by
 have hc:=h.ci.cb.same (hg.block c h.ci.cb.z (λe=>zbc h.ci.ln h.ci.cb.blk (by decide) e.symm))
 have hb:W3.heap[w.heap.size]? = Y.heap[w.heap.size]?:=hg.block _ h.bx.z (λe=>by have:=h.lo _ e.symm;omega)
 have hp:W3.heap[pb]? = Y.heap[pb]?:=hg.block _ h.pix.z (λe=>by have:=h.lo _ e.symm;have:=h.pz;omega)
 have hx:=h.bx.same hg.size hb
 exact ⟨⟨hc.bx.at 2 _ rfl,hx.at 3 _ rfl,hx.at 0 _ rfl,(h.pix.same hg.size hp).c⟩,hc.bx.at 2 _ rfl,hc.z,hc.bx.f 2⟩
theorem LC.fin {W3:World} {g cap:Nat} (hF:Fb F N) (h:LC F N c vco vln vsm k w M y pb Y) (ho:W3.ownsRow N 62 18 (.slice (some ⟨g,0,none⟩) (k.ln.length+1) cap) (k.ln.length+1) (lcs k.ln++lineL M.b.f y (px M.video y))) (hg:Y.grownBy W3 vln.ownBlock) (hB:F.B<=w.heap.size) :
 CI F N c vco (.slice (some ⟨g,0,none⟩) (k.ln.length+1) cap) vsm (W3.setCell ⟨c,2,none⟩ (.slice (some ⟨g,0,none⟩) (k.ln.length+1) cap)) { k with ln:=k.ln++[(⟨M.b.f,y,px M.video y⟩:Lin)] }/\Below F.B w (W3.setCell ⟨c,2,none⟩ (.slice (some ⟨g,0,none⟩) (k.ln.length+1) cap))/\Kp N c w (W3.setCell ⟨c,2,none⟩ (.slice (some ⟨g,0,none⟩) (k.ln.length+1) cap)):=by
 obtain ⟨x,hx⟩:∃ x:Lin,x=⟨M.b.f,y,px M.video y⟩:=⟨_,rfl⟩
 rw [<- hx]
 have e1:(k.ln++[x]).length=k.ln.length+1:=by simp
 have ho':W3.ownsRow N 62 18 (.slice (some ⟨g,0,none⟩) (k.ln++[x]).length cap) (k.ln++[x]).length (lcs (k.ln++[x])):=by
  rw [hx];exact zj9 ho
 obtain ⟨r1,r2⟩:=h.ci.grow2 (xs:=k.ln++[x]) hF ho' hg
 rw [e1] at r1 r2
 exact ⟨r1,(h.low.mono hB).trans r2,(Kp.of h.low).trans ((Kp.grown (Or.inl rfl) h.ci.ln hg).trans (Kp.set 2 _))⟩
theorem LB.start (hF:Fb F N) (h:CI F N c vco vln vsm w k) (hm:k.s.M=M):LB F N c vco vln vsm k w M y (w.alloc (.cells #[.int .i64 y,.int .i64 M.b.a,.bool M.b.g,.int .i64 M.b.f] 38)) :=
 ⟨h.keep hF (stA (st0 w) _),stA (st0 w) _,Bx.new w [.int .i64 y,.int .i64 M.b.a,.bool M.b.g,.int .i64 M.b.f] _ rfl,hm,λj e=>(zaJ h.ln j e).2.1⟩
theorem Lk.showLine (hF:Fb F N) (h:CI F N c vco vln vsm w k) (hl:k.ln.length<=100000):Calls Tryz.prog 60 #[pt c 0] w λe w'=>e = .returned (.tuple #[])/\(∃ vln',CI F N c vco vln' vsm w' { k with ln:=k.ln++k.s.M.line }/\Below F.B w w')/\Kp N c w w':=by
 obtain ⟨v,hB⟩:=h.i.bd
 obtain ⟨M,hM⟩:∃ M,k.s.M=M:=⟨_,rfl⟩
 rw [hM] at hB ⊢
 have k0:=h.cb.bx.at 0 _ rfl
 have kz:=h.cb.z
 have m61:=hB.at 61 (.int .i64 M.b.l) rfl
 have m62:=hB.at 62 (.int .i64 M.b.a) rfl
 have m63:=hB.at 63 (.bool M.b.g) rfl
 have m64:=hB.at 64 (.int .i64 M.b.f) rfl
 have mz:=hB.bx.z
 have HF:=hid hF
 have H:=hid h
 have HL:=hid hl
 have hbl:=hB.fit.b.l0
 by_cases ha:M.b.a=0
 ·rw [ha] at m62
  by_cases h8:M.b.l<8
  ·obtain ⟨y,hy⟩:∃ y:Nat,M.b.l=y:=Int.eq_ofNat_of_zero_le hbl
   have e0:M.line=[⟨M.b.f,y,px M.video y⟩]:=by
    unfold Mach.line
    rw [if_pos ⟨ha,h8⟩,hy];rfl
   rw [e0]
   rw [hy] at m61 h8
   have h8':y<8:=by omega
   have HY8:=hid h8'
   have hst:=LB.start (y:=y) hF h hM
   rw [ha] at hst
   have HST:=hid hst
   have hya:¬ (8:Int)<=y:=by omega
   clear hF h hl hB hM e0 hst hbl h8 h8'
   go_enter Tryz.func60,Tryz.ntmps60
   go_upto_region 2 with fail
   refine Pl.cutW (LB F N c vco vln vsm k w M y) ?_ ?_
   ·exact HST.out
   intro Y hY
   have HLY:=hid hY.low
   have HY:=hid (hY.kept' HF.out (st0 Y).drew)
   clear hY HST k0 kz m61 m62 m63 m64 mz hya ha hy
   refine wp_region_held_drew (S:=λw'=>w'.cell? ⟨c,0,none⟩=some (pt F.g 0)/\w'.cell? ⟨F.g,34,none⟩=some F.S.vi/\w'.cell? ⟨w.heap.size,0,none⟩=some (.int .i64 y)) (by kernel_rfl) (HY.out.s2) ?_
   intro hS
   refine tqH 0 ⟨some 21,_,_,_,_,none⟩ hS ?_
   simp only [Act.put,xA,xB,xC]
   refine tqH 1 ⟨some 22,_,_,_,_,none⟩ hS ?_
   simp only [Act.put,xA,xB,xC]
   refine tqH 2 ⟨some 23,_,_,_,_,none⟩ hS ?_
   simp only [Act.put,xA,xB,xC]
   refine tqH 7 ⟨some 28,_,_,_,_,none⟩ hS ?_
   simp only [Act.put,xA,xB,xC]
   refine wpAnyH_take (i:=3) (oi:=⟨some 24,_,_,_,_,none⟩) (v:=pt F.g 0) rfl (by kernel_rfl) (by kernel_rfl) (by kernel_rfl) (λ_ _ _ h=>h) (Or.inl ⟨by rfl,?_⟩) hS ?_
   ·intro w' hSw
    have hcc:=hSw.1
    have hcz:=World.block_lt_of_cell? w' _ hcc
    go_simp
    try (with_reducible rfl)
   simp only [Act.put,xA,xB,xC]
   refine tqH 4 ⟨some 25,_,_,_,_,none⟩ hS ?_
   simp only [Act.put,xA,xB,xC]
   refine tqH 5 ⟨some 26,_,_,_,_,none⟩ hS ?_
   simp only [Act.put,xA,xB,xC]
   refine wpAnyH_take (i:=6) (oi:=⟨some 27,_,_,_,_,none⟩) (v:=F.S.vi) rfl (by kernel_rfl) (by kernel_rfl) (by kernel_rfl) (λ_ _ _ h=>h) (Or.inl ⟨by rfl,?_⟩) hS ?_
   ·intro w' hSw
    have hcc:=hSw.2.1
    have hcz:=World.block_lt_of_cell? w' _ hcc
    go_simp
    try (with_reducible rfl)
   simp only [Act.put,xA,xB,xC]
   refine wpAnyH_take (i:=8) (oi:=⟨some 29,_,_,_,_,none⟩) (v:=.int .i64 y) rfl (by kernel_rfl) (by kernel_rfl) (by kernel_rfl) (λ_ _ _ h=>h) (Or.inl ⟨by rfl,?_⟩) hS ?_
   ·intro w' hSw
    have hcc:=hSw.2.2
    have hcz:=World.block_lt_of_cell? w' _ hcc
    go_simp
    try (with_reducible rfl)
   simp only [Act.put,xA,xB,xC]
   refine wpAnyH_ready (rs:=[9,13]) (by kernel_rfl) (by simp) ?_
   refine AllReadyH.cons (o:=⟨some 30,_,_,_,_,none⟩) rfl (λK hK=>?_) (AllReadyH.cons (o:=⟨some 3,_,_,_,_,none⟩) rfl (λK hK=>?_) AllReadyH.nil)
   ·go_simp
    go_at_call 111
    obtain ⟨gm,om,cm,hmm⟩:=HY.out.mm
    refine (zj5 M.video F.S.vi gm om cm y _ hmm HY8.out).mono ?_
    rintro e w2 ⟨rfl,hbw2⟩
    have HBw2:=hid (HY.out.kept' HF.out hbw2)
    clear hbw2 hmm
    try go_wp2_with fail
    refine hK.out _ _ HBw2.out.s2 (λ_=>?_)
    clear hK K hS
    have hS:=HBw2.out.s2
    try simp only [Act.put,xA,xB,xC]
    refine tqH 10 ⟨some 20,_,_,_,_,none⟩ hS ?_
    simp only [Act.put,xA,xB,xC]
    refine tqH 11 ⟨some 31,_,_,_,_,none⟩ hS ?_
    simp only [Act.put,xA,xB,xC]
    refine tqH 12 ⟨some 32,_,_,_,_,none⟩ hS ?_
    simp only [Act.put,xA,xB,xC]
    refine wpAnyH_ready (rs:=[13]) (by kernel_rfl) (by simp) ?_
    refine AllReadyH.cons (o:=⟨some 3,_,_,_,_,none⟩) rfl (λK hK=>?_) AllReadyH.nil
    go_simp
    have HBA:=hid (HBw2.out.kept' HF.out (stA (st0 w2) (.cells (row16 λ_=>0).toArray 60)))
    refine hK.out _ _ (HBA.out.s2) (λ_=>?_)
    clear hK K
    try simp only [Act.put,xA,xB,xC]
    clear hS
    have hS:=HBA.out.s2
    refine wpAnyH_ready (rs:=[14]) (by kernel_rfl) (by simp) ?_
    refine AllReadyH.cons (o:=⟨none,_,_,_,_,none⟩) rfl (λK hK=>?_) AllReadyH.nil
    refine zam rfl 60 _ _ rfl w2.heap.size 0 (row16 (px M.video y)).toArray rfl rfl ((Bx.new w2 (row16 λ_=>0) 60 (b:=w2.heap.size) rfl).there 0 16 (by rw [zaq];decide)) zc6 (row_one _) ?_
    have HBC:=hid (LC.of HF.out HBw2.out (Bl.puts (o:=0) (stA (st0 w2) (.cells (row16 λ_=>0).toArray 60)) (Nat.le_refl _) (row16 (px M.video y))) (zka (Bx.new w2 (row16 λ_=>0) 60 (b:=w2.heap.size) rfl) (zaq _)) HBw2.out.low.size)
    refine hK.out _ _ (HBC.out.s2) (λ_=>?_)
    clear hK K
    clear hS
    have hS:=HBC.out.s2
    refine tqH 15 ⟨some 4,_,_,_,_,none⟩ hS ?_
    simp only [Act.put,xA,xB,xC]
    refine wpAnyH_done (by kernel_rfl) ?_ _
    refine Pl.cutE (LC F N c vco vln vsm k w M y (w2.heap.size)) HBC.out ?_
    intro Z hZ
    have HZ:=hid (hZ.kept' HF.out (st0 Z).drew)
    clear hZ HBC hS
    have hS:=HZ.out.s3
    go_wp2
    refine zac (S:=λw'=>w'.cell? ⟨c,2,none⟩=some vln/\w'.cell? ⟨w.heap.size,3,none⟩=some (.int .i64 M.b.f)/\w'.cell? ⟨w.heap.size,0,none⟩=some (.int .i64 y)/\w'.rangeAt w2.heap.size 0 (row16 (px M.video y))) (st:=17) (by kernel_rfl) ?_
    refine tqG 0 ⟨some 33,_,_,_,_,none⟩ (λ_=>hS) ?_
    simp only [Act.put,xA,xB,xC]
    refine tqG 1 ⟨some 34,_,_,_,_,none⟩ (λ_=>hS) ?_
    simp only [Act.put,xA,xB,xC]
    refine tqG 2 ⟨some 35,_,_,_,_,none⟩ (λ_=>hS) ?_
    simp only [Act.put,xA,xB,xC]
    refine tqG 3 ⟨some 36,_,_,_,_,none⟩ (λ_=>hS) ?_
    simp only [Act.put,xA,xB,xC]
    refine tqG 4 ⟨some 37,_,_,_,_,none⟩ (λ_=>hS) ?_
    simp only [Act.put,xA,xB,xC]
    refine tqG 6 ⟨some 39,_,_,_,_,none⟩ (λ_=>hS) ?_
    simp only [Act.put,xA,xB,xC]
    refine tqG 8 ⟨some 41,_,_,_,_,none⟩ (λ_=>hS) ?_
    simp only [Act.put,xA,xB,xC]
    refine zaf (i:=5) (oi:=⟨some 38,_,_,_,_,none⟩) (v:=vln) rfl (by kernel_rfl) (by kernel_rfl) (by kernel_rfl) (by kernel_rfl) (by decide) (by kernel_rfl) (λ_ _ _ h=>h) (Or.inl ⟨by rfl,?_⟩) hS ?_
    ·intro w' hSw
     have hcc:=hSw.1
     have hcz:=World.block_lt_of_cell? w' _ hcc
     go_simp
     try (with_reducible rfl)
    simp only [Act.put,xA,xB,xC]
    refine zaf (i:=7) (oi:=⟨some 40,_,_,_,_,none⟩) (v:=.int .i64 M.b.f) rfl (by kernel_rfl) (by kernel_rfl) (by kernel_rfl) (by kernel_rfl) (by decide) (by kernel_rfl) (λ_ _ _ h=>h) (Or.inl ⟨by rfl,?_⟩) hS ?_
    ·intro w' hSw
     have hcc:=hSw.2.1
     have hcz:=World.block_lt_of_cell? w' _ hcc
     go_simp
     try (with_reducible rfl)
    simp only [Act.put,xA,xB,xC]
    refine zaf (i:=9) (oi:=⟨some 42,_,_,_,_,none⟩) (v:=.int .i64 y) rfl (by kernel_rfl) (by kernel_rfl) (by kernel_rfl) (by kernel_rfl) (by decide) (by kernel_rfl) (λ_ _ _ h=>h) (Or.inl ⟨by rfl,?_⟩) hS ?_
    ·intro w' hSw
     have hcc:=hSw.2.2.1
     have hcz:=World.block_lt_of_cell? w' _ hcc
     go_simp
     try (with_reducible rfl)
    simp only [Act.put,xA,xB,xC]
    refine zaf (i:=10) (oi:=⟨some 43,_,_,_,_,none⟩) (v:=.agg (row16 (px M.video y)).toArray) rfl (by kernel_rfl) (by kernel_rfl) (by kernel_rfl) (by kernel_rfl) (by decide) (by kernel_rfl) (λ_ _ _ h=>h) (Or.inl ⟨by rfl,λw' hSw=>zai 60 _ rfl (w2.heap.size) 0 rfl (row16 (px M.video y)) _ hSw.2.2.2 Tryz.underlying60 rfl (by rw [zaq];exact zc6)⟩) hS ?_
    simp only [Act.put,xA,xB,xC]
    refine zaR (i:=11) (oi:=⟨some 44,_,_,_,_,none⟩) (v:=.agg (lineL M.b.f y (px M.video y)).toArray) rfl (by kernel_rfl) (by kernel_rfl) (by kernel_rfl) (by decide) (λ_ _ _ h=>h) (Or.inl ⟨by rfl,λw' _=>zbC 62 0 1 2 _ _ _ rfl (.int .i64 M.b.f) (.int .i64 y) (.agg (row16 (px M.video y)).toArray) (.agg (lineL M.b.f y (px M.video y)).toArray) rfl rfl rfl (zg7 M.b.f y (px M.video y) w')⟩) (λ_=>hS) ?_
    simp only [Act.put,xA,xB,xC]
    refine zaa (i:=12) (o:=⟨some 45,_,_,_,_,none⟩) (by kernel_rfl) rfl (λK hK=>?_)
    refine zdz rfl 47 1 0 _ rfl (.agg (lineL M.b.f y (px M.video y)).toArray) rfl (zf1 M.b.f y (px M.video y) _) ?_
    have HZ1:=hid (HZ.out.kept' HF.out (stA (st0 Z.drew) (.cells (lineL M.b.f y (px M.video y)).toArray 62)))
    refine hK.out _ _ (λ_=>HZ1.out.s3) ?_
    clear hK K
    try simp only [Act.put,xA,xB,xC]
    clear hS
    have hS:=HZ1.out.s3
    refine zaa (i:=13) (o:=⟨some 46,_,_,_,_,none⟩) (by kernel_rfl) rfl (λK hK=>?_)
    obtain ⟨i1,hj0,hy0,hy1,hy2⟩:=info_parts zbM
    refine step_append_lies _ (by rfl) (.tmp 38) (.tmp 45) 47 (by rfl) N 62 i1 _ 18 32 Tryz.underlying47 hj0 hy0 hy1 hy2 rfl (by omega) vln k.ln.length (lcs k.ln) rfl HZ1.out.ci.ln ⟨Z.heap.size,0,none⟩ 1 1 (lineL M.b.f y (px M.video y)) rfl (zg8 _ _ _) (zex _ Z.drew) (zg9 _ _ _) (by omega) (by unfold maxLen;have:=HL.out;omega) (by have:=HL.out;omega) (Nat.le_trans HZ1.out.ci.i.N (Nat.le_refl _)) _ rfl ?_
    intro g1 cap1 W3 hown1 hg1 hat1 hz1
    have HO1:=hid hown1
    have HG1:=hid hg1
    have HS3:=hid (HZ1.out.grown hg1)
    clear hown1 hg1 hat1 hz1
    refine hK.out _ _ (λ_=>HS3.out.1) ?_
    clear hK K
    try simp only [Act.put,xA,xB,xC]
    clear hS
    have hS:=HS3.out.1
    refine tqG 14 ⟨some 47,_,_,_,_,none⟩ (λ_=>hS) ?_
    simp only [Act.put,xA,xB,xC]
    refine tqG 15 ⟨some 48,_,_,_,_,none⟩ (λ_=>hS) ?_
    simp only [Act.put,xA,xB,xC]
    refine tqG 16 ⟨some 49,_,_,_,_,none⟩ (λ_=>hS) ?_
    simp only [Act.put,xA,xB,xC]
    obtain ⟨q2,qz,qf⟩:=HS3.out.2
    refine zaa (i:=17) (o:=⟨none,_,_,_,_,none⟩) (by kernel_rfl) rfl (λK hK=>?_)
    go_simp
    refine hK.out _ _ (λh=>by simp at h) ?_
    clear hK K
    refine zab (by kernel_rfl) ?_ _
    obtain ⟨r1,r2,r3⟩:=LC.fin HF.out HZ1.out HO1.out HG1.out H.out.i.big
    refine Pl.cutE (λV=>CI F N c vco (.slice (some ⟨g1,0,none⟩) (k.ln.length+1) cap1) vsm V { k with ln:=k.ln++[⟨M.b.f,y,px M.video y⟩] }/\Below F.B w V/\Kp N c w V) ⟨r1,r2,r3⟩ ?_
    rintro V ⟨hV1,hV2,hV3⟩
    have HV1:=hid hV1
    have HV2:=hid hV2
    have HV3:=hid hV3
    clear hV1 hV2 hV3 r1 r2 r3 HZ1 HO1 HG1 HS3 HZ q2 qz qf hS
    go_wp2
    go_end0
    exact ⟨rfl,⟨_,HV1.out,HV2.out⟩,HV3.out⟩
   ·go_simp
    have HBA:=hid (HY.out.kept' HF.out (stA (st0 Y.drew) (.cells (row16 λ_=>0).toArray 60)))
    have HBN:=hid (Bx.new Y.drew (row16 λ_=>0) 60 (b:=Y.heap.size) rfl)
    refine hK.out _ _ HBA.out.s2 (λ_=>?_)
    clear hK K hS
    have hS:=HBA.out.s2
    try simp only [Act.put,xA,xB,xC]
    refine wpAnyH_ready (rs:=[9]) (by kernel_rfl) (by simp) ?_
    refine AllReadyH.cons (o:=⟨some 30,_,_,_,_,none⟩) rfl (λK hK=>?_) AllReadyH.nil
    go_simp
    go_at_call 111
    obtain ⟨gm,om,cm,hmm⟩:=HBA.out.mm
    refine (zj5 M.video F.S.vi gm om cm y _ hmm HY8.out).mono ?_
    rintro e w2 ⟨rfl,hbw2⟩
    have HBw2:=hid (HBA.out.kept' HF.out hbw2)
    have HQw2:=hid hbw2
    clear hbw2 hmm
    try go_wp2_with fail
    have HBO:=hid (HBN.out.kept HQw2.out)
    refine hK.out _ _ (HBw2.out.s2) (λ_=>?_)
    clear hK K
    try simp only [Act.put,xA,xB,xC]
    clear hS
    have hS:=HBw2.out.s2
    refine tqH 10 ⟨some 20,_,_,_,_,none⟩ hS ?_
    simp only [Act.put,xA,xB,xC]
    refine tqH 11 ⟨some 31,_,_,_,_,none⟩ hS ?_
    simp only [Act.put,xA,xB,xC]
    refine tqH 12 ⟨some 32,_,_,_,_,none⟩ hS ?_
    simp only [Act.put,xA,xB,xC]
    refine wpAnyH_ready (rs:=[14]) (by kernel_rfl) (by simp) ?_
    refine AllReadyH.cons (o:=⟨none,_,_,_,_,none⟩) rfl (λK hK=>?_) AllReadyH.nil
    refine zam rfl 60 _ _ rfl Y.heap.size 0 (row16 (px M.video y)).toArray rfl rfl (HBO.out.there 0 16 (by rw [zaq];decide)) zc6 (row_one _) ?_
    have HBC:=hid (LC.of HF.out HY.out (Bl.puts (o:=0) (stp (stA (st0 Y.drew) (.cells (row16 λ_=>0).toArray 60)) HQw2.out) (Nat.le_refl _) (row16 (px M.video y))) (zka HBO.out (zaq _)) HLY.out.size)
    refine hK.out _ _ (HBC.out.s2) (λ_=>?_)
    clear hK K
    clear hS
    have hS:=HBC.out.s2
    refine tqH 15 ⟨some 4,_,_,_,_,none⟩ hS ?_
    simp only [Act.put,xA,xB,xC]
    refine wpAnyH_done (by kernel_rfl) ?_ _
    refine Pl.cutE (LC F N c vco vln vsm k w M y (Y.heap.size)) HBC.out ?_
    intro Z hZ
    have HZ:=hid (hZ.kept' HF.out (st0 Z).drew)
    clear hZ HBC hS
    have hS:=HZ.out.s3
    go_wp2
    refine zac (S:=λw'=>w'.cell? ⟨c,2,none⟩=some vln/\w'.cell? ⟨w.heap.size,3,none⟩=some (.int .i64 M.b.f)/\w'.cell? ⟨w.heap.size,0,none⟩=some (.int .i64 y)/\w'.rangeAt Y.heap.size 0 (row16 (px M.video y))) (st:=17) (by kernel_rfl) ?_
    refine tqG 0 ⟨some 33,_,_,_,_,none⟩ (λ_=>hS) ?_
    simp only [Act.put,xA,xB,xC]
    refine tqG 1 ⟨some 34,_,_,_,_,none⟩ (λ_=>hS) ?_
    simp only [Act.put,xA,xB,xC]
    refine tqG 2 ⟨some 35,_,_,_,_,none⟩ (λ_=>hS) ?_
    simp only [Act.put,xA,xB,xC]
    refine tqG 3 ⟨some 36,_,_,_,_,none⟩ (λ_=>hS) ?_
    simp only [Act.put,xA,xB,xC]
    refine tqG 4 ⟨some 37,_,_,_,_,none⟩ (λ_=>hS) ?_
    simp only [Act.put,xA,xB,xC]
    refine tqG 6 ⟨some 39,_,_,_,_,none⟩ (λ_=>hS) ?_
    simp only [Act.put,xA,xB,xC]
    refine tqG 8 ⟨some 41,_,_,_,_,none⟩ (λ_=>hS) ?_
    simp only [Act.put,xA,xB,xC]
    refine zaf (i:=5) (oi:=⟨some 38,_,_,_,_,none⟩) (v:=vln) rfl (by kernel_rfl) (by kernel_rfl) (by kernel_rfl) (by kernel_rfl) (by decide) (by kernel_rfl) (λ_ _ _ h=>h) (Or.inl ⟨by rfl,?_⟩) hS ?_
    ·intro w' hSw
     have hcc:=hSw.1
     have hcz:=World.block_lt_of_cell? w' _ hcc
     go_simp
     try (with_reducible rfl)
    simp only [Act.put,xA,xB,xC]
    refine zaf (i:=7) (oi:=⟨some 40,_,_,_,_,none⟩) (v:=.int .i64 M.b.f) rfl (by kernel_rfl) (by kernel_rfl) (by kernel_rfl) (by kernel_rfl) (by decide) (by kernel_rfl) (λ_ _ _ h=>h) (Or.inl ⟨by rfl,?_⟩) hS ?_
    ·intro w' hSw
     have hcc:=hSw.2.1
     have hcz:=World.block_lt_of_cell? w' _ hcc
     go_simp
     try (with_reducible rfl)
    simp only [Act.put,xA,xB,xC]
    refine zaf (i:=9) (oi:=⟨some 42,_,_,_,_,none⟩) (v:=.int .i64 y) rfl (by kernel_rfl) (by kernel_rfl) (by kernel_rfl) (by kernel_rfl) (by decide) (by kernel_rfl) (λ_ _ _ h=>h) (Or.inl ⟨by rfl,?_⟩) hS ?_
    ·intro w' hSw
     have hcc:=hSw.2.2.1
     have hcz:=World.block_lt_of_cell? w' _ hcc
     go_simp
     try (with_reducible rfl)
    simp only [Act.put,xA,xB,xC]
    refine zaf (i:=10) (oi:=⟨some 43,_,_,_,_,none⟩) (v:=.agg (row16 (px M.video y)).toArray) rfl (by kernel_rfl) (by kernel_rfl) (by kernel_rfl) (by kernel_rfl) (by decide) (by kernel_rfl) (λ_ _ _ h=>h) (Or.inl ⟨by rfl,λw' hSw=>zai 60 _ rfl (Y.heap.size) 0 rfl (row16 (px M.video y)) _ hSw.2.2.2 Tryz.underlying60 rfl (by rw [zaq];exact zc6)⟩) hS ?_
    simp only [Act.put,xA,xB,xC]
    refine zaR (i:=11) (oi:=⟨some 44,_,_,_,_,none⟩) (v:=.agg (lineL M.b.f y (px M.video y)).toArray) rfl (by kernel_rfl) (by kernel_rfl) (by kernel_rfl) (by decide) (λ_ _ _ h=>h) (Or.inl ⟨by rfl,λw' _=>zbC 62 0 1 2 _ _ _ rfl (.int .i64 M.b.f) (.int .i64 y) (.agg (row16 (px M.video y)).toArray) (.agg (lineL M.b.f y (px M.video y)).toArray) rfl rfl rfl (zg7 M.b.f y (px M.video y) w')⟩) (λ_=>hS) ?_
    simp only [Act.put,xA,xB,xC]
    refine zaa (i:=12) (o:=⟨some 45,_,_,_,_,none⟩) (by kernel_rfl) rfl (λK hK=>?_)
    refine zdz rfl 47 1 0 _ rfl (.agg (lineL M.b.f y (px M.video y)).toArray) rfl (zf1 M.b.f y (px M.video y) _) ?_
    have HZ1:=hid (HZ.out.kept' HF.out (stA (st0 Z.drew) (.cells (lineL M.b.f y (px M.video y)).toArray 62)))
    refine hK.out _ _ (λ_=>HZ1.out.s3) ?_
    clear hK K
    try simp only [Act.put,xA,xB,xC]
    clear hS
    have hS:=HZ1.out.s3
    refine zaa (i:=13) (o:=⟨some 46,_,_,_,_,none⟩) (by kernel_rfl) rfl (λK hK=>?_)
    obtain ⟨i1,hj0,hy0,hy1,hy2⟩:=info_parts zbM
    refine step_append_lies _ (by rfl) (.tmp 38) (.tmp 45) 47 (by rfl) N 62 i1 _ 18 32 Tryz.underlying47 hj0 hy0 hy1 hy2 rfl (by omega) vln k.ln.length (lcs k.ln) rfl HZ1.out.ci.ln ⟨Z.heap.size,0,none⟩ 1 1 (lineL M.b.f y (px M.video y)) rfl (zg8 _ _ _) (zex _ Z.drew) (zg9 _ _ _) (by omega) (by unfold maxLen;have:=HL.out;omega) (by have:=HL.out;omega) (Nat.le_trans HZ1.out.ci.i.N (Nat.le_refl _)) _ rfl ?_
    intro g1 cap1 W3 hown1 hg1 hat1 hz1
    have HO1:=hid hown1
    have HG1:=hid hg1
    have HS3:=hid (HZ1.out.grown hg1)
    clear hown1 hg1 hat1 hz1
    refine hK.out _ _ (λ_=>HS3.out.1) ?_
    clear hK K
    try simp only [Act.put,xA,xB,xC]
    clear hS
    have hS:=HS3.out.1
    refine tqG 14 ⟨some 47,_,_,_,_,none⟩ (λ_=>hS) ?_
    simp only [Act.put,xA,xB,xC]
    refine tqG 15 ⟨some 48,_,_,_,_,none⟩ (λ_=>hS) ?_
    simp only [Act.put,xA,xB,xC]
    refine tqG 16 ⟨some 49,_,_,_,_,none⟩ (λ_=>hS) ?_
    simp only [Act.put,xA,xB,xC]
    obtain ⟨q2,qz,qf⟩:=HS3.out.2
    refine zaa (i:=17) (o:=⟨none,_,_,_,_,none⟩) (by kernel_rfl) rfl (λK hK=>?_)
    go_simp
    refine hK.out _ _ (λh=>by simp at h) ?_
    clear hK K
    refine zab (by kernel_rfl) ?_ _
    obtain ⟨r1,r2,r3⟩:=LC.fin HF.out HZ1.out HO1.out HG1.out H.out.i.big
    refine Pl.cutE (λV=>CI F N c vco (.slice (some ⟨g1,0,none⟩) (k.ln.length+1) cap1) vsm V { k with ln:=k.ln++[⟨M.b.f,y,px M.video y⟩] }/\Below F.B w V/\Kp N c w V) ⟨r1,r2,r3⟩ ?_
    rintro V ⟨hV1,hV2,hV3⟩
    have HV1:=hid hV1
    have HV2:=hid hV2
    have HV3:=hid hV3
    clear hV1 hV2 hV3 r1 r2 r3 HZ1 HO1 HG1 HS3 HZ q2 qz qf hS
    go_wp2
    go_end0
    exact ⟨rfl,⟨_,HV1.out,HV2.out⟩,HV3.out⟩
  ·have e0:M.line=[]:=if_neg (λe=>h8 e.2)
   rw [e0,List.append_nil]
   have h8':(8:Int)<=M.b.l:=by omega
   clear hF h hl hB hM e0 h8
   go_enter Tryz.func60,Tryz.ntmps60
   go_wp2
   exact bodyPost_ret (v:=.tuple #[]) (by simp [results,Tryz.results60,go_sem]) rfl ⟨rfl,⟨vln,H.out.keep HF.out (stA (st0 w) _),(stA (st0 w) _).mono H.out.i.big⟩,Kp.of (stA (st0 w) _)⟩
 ·have e0:M.line=[]:=if_neg (λe=>ha e.1)
  rw [e0,List.append_nil]
  have ha':(M.b.a == 0)=false:=by simpa using ha
  clear hF h hl hB hM e0 hbl
  go_enter Tryz.func60,Tryz.ntmps60
  go_wp2
  exact bodyPost_ret (v:=.tuple #[]) (by simp [results,Tryz.results60,go_sem]) rfl ⟨rfl,⟨vln,H.out.keep HF.out (stA (st0 w) _),(stA (st0 w) _).mono H.out.i.big⟩,Kp.of (stA (st0 w) _)⟩
end
end Go.Proofs.YtbennamieealbaaGreatDoor
namespace Go.Proofs.YtbennamieealbaaGreatDoor.C
section
variable {σ : Type} {m : Mem σ} {P : σ -> Prop}
theorem keeps_rdw (h1:∀ s a,P s->P (m.rd s a).2) (s:σ) (a:Int) (h:P s):P (m.rdw s a).2:=by
 unfold Mem.rdw
 exact h1 _ _ (h1 _ _ h)
theorem keeps_wrw (h2:∀ s a b,P s->P (m.wr s a b)) (s:σ) (a n:Int) (h:P s):P (m.wrw s a n):=by
 unfold Mem.wrw
 exact h2 _ _ _ (h2 _ _ _ h)
theorem keeps_leave (h1:∀ s a,P s->P (m.rd s a).2) (h2:∀ s a b,P s->P (m.wr s a b)) (x:St σ) (a:Int) (h:P x.s):P (leave m x a).s:=by
 have e1:P (push m x x.c.PC).s:=keeps_wrw h2 _ _ _ h
 have e2:P (push m (push m x x.c.PC) (sign (push m x x.c.PC).c)).s:=keeps_wrw h2 _ _ _ e1
 exact keeps_rdw h1 _ _ e2
theorem keeps_act (h1:∀ s a,P s->P (m.rd s a).2) (h2:∀ s a b,P s->P (m.wr s a b)) (x:St σ) (k:Nat) (d s n w:Int) (h:P x.s):P (act m x k d s n w).s:=by
 have u2:∀ a n,P (m.wrw x.s a n):=λa n=>keeps_wrw h2 _ _ _ h
 have u1:∀ a n,P (m.wr x.s a n):=λa n=>h2 _ _ _ h
 have u3:∀ a,P (m.rdw x.s a).2:=λa=>keeps_rdw h1 _ _ h
 have u4:∀ a,P (m.rd x.s a).2:=λa=>h1 _ _ h
 have u5:∀ a b,P (m.rdw (m.rdw x.s a).2 b).2:=λa b=>keeps_rdw h1 _ _ (u3 a)
 unfold act
 split
 ·exact h
 ·exact h
 ·exact u3 _
 ·exact u2 _ _
 ·exact u4 _
 ·exact u1 _ _
 ·exact h
 ·exact h
 ·exact h
 ·exact h
 ·exact h
 ·exact h
 ·exact h
 ·exact h
 ·exact h
 ·exact h
 ·split <;> exact h
 ·split <;> exact h
 ·split <;> exact h
 ·exact u2 _ _
 ·exact u3 _
 ·exact u2 _ _
 ·exact u3 _
 ·exact h
 ·exact h
 ·exact u5 _ _
 ·exact h
 ·exact h
 ·split <;> exact h
 ·exact keeps_leave h1 h2 x 4 h
 ·exact h
theorem keeps_step (h1:∀ s a,P s->P (m.rd s a).2) (h2:∀ s a b,P s->P (m.wr s a b)) (c:Cpu) (s:σ) (r:Bool) (h:P s):P (step m c s r).s:=by
 unfold step
 split
 ·exact keeps_leave h1 h2 ⟨c,s,0⟩ 2 h
 ·split
  ·exact h
  ·unfold order
   refine keeps_act h1 h2 _ _ _ _ _ _ ?_
   show P (behind m c s).s
   unfold behind
   simp only
   split
   ·exact keeps_rdw h1 _ _ (keeps_rdw h1 _ _ h)
   ·exact keeps_rdw h1 _ _ h
end
end Go.Proofs.YtbennamieealbaaGreatDoor.C
namespace Go.Proofs.YtbennamieealbaaGreatDoor
open Go.ChangeShapes Go.WideShapes Go.ChangeAt Go.RowKit
section
variable {F : Fx} {N c : Nat} {vco vln vsm v' : Value} {w w1 : World} {k : Cs} {s s' : Bst}
theorem zcO (s:Bst):s.stepMain.l=s.l:=by
 unfold Bst.stepMain
 split
 ·rfl
 ·show (C.step mainMem s.M.main ⟨s.M,0,s.l⟩ (s.M.t.g || s.M.b.g)).s.l=s.l
  exact C.keeps_step (m:=mainMem) (P:=λx=>x.l=s.l) (λx a h=>h) (λx a b h=>h) _ _ _ rfl
theorem zkb (hF:Fb F N) (s:Bst) (h:s.l.length<=1000000):s.stepAux.l.length<=s.l.length+4:=by
 unfold Bst.stepAux
 split
 ·omega
 ·show (C.step auxMem s.M.aux s s.M.rung).s.l.length<=s.l.length+4
  have hf:=C.fuel_step (zg5 hF).frd (zg5 hF).fwr s.M.aux s s.M.rung
  have h0:1000000001-s.l.length<=1000000001-(C.step auxMem s.M.aux s s.M.rung).s.l.length+4:=hf
  omega
theorem zf2 (M:Mach):∀ (l:List Inp),(∀ x∈l,x.ok)->∀ x∈M.coming l,x.ok
 | [],h=>h
 | y::l,h=>by
  unfold Mach.coming
  split
  ·exact zf2 M l (λx hx=>h x (List.mem_cons_of_mem _ hx))
  ·exact h
theorem Lk.nowK (hF:Fb F N) (h:CI F N c vco vln vsm w k) (h1:k.ln.length<=100000) (h2:k.sm.length<=100000) (h3:k.s.l.length<=1000000):Calls Tryz.prog 35 #[pt c 0] w λe w'=>e = .returned (.tuple #[])/\(∃ vco' vln' vsm',CI F N c vco' vln' vsm' w' k.now/\Below F.B w w')/\Kp N c w w':=by
 have HF:=hid hF
 have H:=hid h
 have H1:=hid h1
 have H2:=hid h2
 have H3:=hid h3
 clear hF h h1 h2 h3
 go_enter Tryz.func35,Tryz.ntmps35
 go_wp2_with (first
  | (go_at_call 59;refine (Lk.press (M:=k.s.M) (n:=k.s.n) (l:=k.s.l) HF.out H.out.i H.out.cb H.out.co H.out.ok).mono ?_;rintro e w1 ⟨rfl,v1,hx1⟩;have HC1:=hid (H.out.pressed hx1 (zf2 _ _ H.out.ok));have HB1:=hid hx1.km.m.below;have HK1:Hid (Kp N c w w1):=hid hx1.km.kp;clear hx1)
  | (go_at_call 60;refine (Lk.showLine HF.out HC1.out H1.out).mono ?_;rintro e w2 ⟨rfl,⟨v2,hx2,hb2⟩,hk2⟩;have HC2:=hid hx2;have HB2:=hid hb2;have HK2:=hid hk2;clear hx2 hb2 hk2)
  | (go_at_call 61;refine (Lk.showSample HF.out HC2.out H2.out).mono ?_;rintro e w3 ⟨rfl,⟨v3,hx3,hb3⟩,hk3⟩;have HC3:=hid hx3;have HB3:=hid hb3;have HK3:=hid hk3;clear hx3 hb3 hk3)
  | (go_at_call 62;refine (Lk.stepMain HF.out HC3.out.i HC3.out.cb).mono ?_;rintro e w4 ⟨rfl,hm4⟩;have HC4:=hid (HC3.out.step hm4);have HB4:=hid hm4.m.below;have HK4:Hid (Kp N c w3 w4):=hid hm4.kp;clear hm4)
  | (go_at_call 63;refine (Lk.stepAux HF.out HC4.out.i HC4.out.cb (by show (Bst.stepMain _).l.length<=1000000;rw [zcO];exact H3.out)).mono ?_;rintro e w5 ⟨rfl,hm5⟩;have HC5:=hid (HC4.out.step hm5);have HB5:=hid hm5.m.below;have HK5:Hid (Kp N c w4 w5):=hid hm5.kp;clear hm5))
 go_end0
 exact ⟨rfl,⟨v1,v2,v3,HC5.out,(((HB1.out.trans HB2.out).trans HB3.out).trans HB4.out).trans HB5.out⟩,(((HK1.out.trans HK2.out).trans HK3.out).trans HK4.out).trans HK5.out⟩
end
def chkL:List Inp->Int->Int
 | [],_=>0
 | x::l,a=>if x.c<a \/ 400000<x.c then 3 else if x.p=0 \/ x.p=1 then chkL l x.c else 5
def chkIn (l:List Inp) (a:Int):Int:=if 40<l.length then 2 else chkL l a
theorem zdA:∀ (l:List Inp) (a:Int),chkL l a=0->∀ x∈l,(x.p=0 \/ x.p=1)/\a<=x.c
 | [],_,_=>λx hx=>by cases hx
 | y::l,a,h=>λx hx=>by
  unfold chkL at h
  split at h
  ·cases h
  ·rename_i h1
   split at h
   ·rename_i h2
    rcases List.mem_cons.1 hx with rfl|hx
    ·exact ⟨h2,by omega⟩
    ·obtain ⟨e1,e2⟩:=zdA l y.c h x hx
     exact ⟨e1,by omega⟩
   ·cases h
theorem chk3 {x:Inp} {l:List Inp} {a:Int} (h:x.c<a \/ 400000<x.c):chkL (x::l) a=3:=if_pos h
theorem chk0 {x:Inp} {l:List Inp} {a:Int} (h:¬ (x.c<a \/ 400000<x.c)) (hp:x.p=0 \/ x.p=1):chkL (x::l) a=chkL l x.c:=(if_neg h).trans (if_pos hp)
theorem chk5 {x:Inp} {l:List Inp} {a:Int} (h:¬ (x.c<a \/ 400000<x.c)) (hp:¬ (x.p=0 \/ x.p=1)):chkL (x::l) a=5:=(if_neg h).trans (if_neg hp)
theorem InpAt.at' {B:Nat} {w:World} {v:Value} {l:List Inp} (h:InpAt B w v l) {j:Nat} {x:Inp} (hx:l[j]? = some x):∃ g o k,v = .slice (some ⟨g,o,none⟩) l.length k/\g<w.heap.size/\w.cell? ⟨g,o+j*3,none⟩=some (.int .i64 x.c)/\w.cell? ⟨g,o+j*3+1,none⟩=some (.int .i64 x.p)/\w.cell? ⟨g,o+j*3+2,none⟩=some (.int .u8 x.d):=by
 rcases h with ⟨rfl,_⟩|⟨g,o,k,h1,h2,h3,h4,h5⟩
 ·simp at hx
 ·obtain ⟨e1,e2,e3⟩:=h5 j x hx
  rw [Nat.mul_comm 3 j] at e1 e2 e3
  exact ⟨g,o,k,h1,h4,e1,e2,e3⟩
theorem Lk.checkInputs (l:List Inp) (v:Value) (B:Nat) (a:Int) (w:World) (h:InpAt B w v l) (hB:B<=w.heap.size):Calls Tryz.prog 55 #[v,.int .i64 a] w λe w'=>e = .returned (.int .i64 (chkIn l a))/\Below w.heap.size w w':=by
 obtain ⟨a1,k1,e1⟩:=h.len
 subst e1
 by_cases hl:40<l.length
 ·have hl':(40:Int)<l.length:=by omega
  have e0:chkIn l a=2:=if_pos hl
  rw [e0]
  clear h e0
  go_enter Tryz.func55,Tryz.ntmps55
  go_wp2
  go_ret
  exact ⟨rfl,st0 w⟩
 ·have hl':¬ (40:Int)<l.length:=by omega
  have e0:chkIn l a=chkL l a:=if_neg hl
  rw [e0]
  have H:=hid h
  clear h e0
  go_enter Tryz.func55,Tryz.ntmps55
  go_wp2
  go_loopw [14,5] (λi ah wr=>∃ (j:Nat) (a':Int),j<=l.length/\i = .int .i64 j/\ah = .int .i64 a'/\chkL (l.drop j) a'=chkL l a/\Below w.heap.size w wr) (λi _ _=>l.length-(intOf i).toNat)
  case atStart=>exact ⟨0,a,Nat.zero_le _,rfl,rfl,rfl,st0 w⟩
  case round =>
   obtain ⟨j,a',hj,rfl,rfl,hE,hb⟩:=hrel
   have HE:=hid hE
   have HB:=hid hb
   by_cases hlt:j<l.length
   ·obtain ⟨x,hx⟩:∃ x,l[j]? = some x:=⟨_,List.getElem?_eq_getElem hlt⟩
    have hd:l.drop j=x::l.drop (j+1):=by
     rw [List.drop_eq_getElem_cons hlt]
     congr 1
     rw [List.getElem?_eq_getElem hlt] at hx
     exact Option.some.inj hx
    have HH:=(H.out.kept (hb.mono hB))
    obtain ⟨g,o,k,ev,gz,x0,x1,x2⟩:=HH.at' hx
    cases ev
    have hjl:(j:Int)<l.length:=by omega
    have hj0:(0:Int)<=j:=by omega
    have HD:=hid hd
    clear hE hb hd hx HH
    by_cases q1:x.c<a'
    ·go_wp2
     go_ret
     exact ⟨by rw [<- HE.out,HD.out,chk3 (Or.inl q1)];rfl,stA HB.out _⟩
    ·have q1':a'<=x.c:=by omega
     by_cases q2:400000<x.c
     ·go_wp2
      go_ret
      exact ⟨by rw [<- HE.out,HD.out,chk3 (Or.inr q2)];rfl,stA HB.out _⟩
     ·have q2':x.c<=400000:=by omega
      have HQ:Hid (¬ (x.c<a' \/ 400000<x.c)):=λe=>e.elim (λe=>by omega) (λe=>by omega)
      clear q1 q2
      by_cases q3:x.p=0
      ·have HP:=hid q3
       rw [q3] at x1
       clear q3
       go_wp2
       exact ⟨⟨j+1,x.c,by omega,by simp,rfl,by rw [<- HE.out,HD.out,chk0 HQ.out (Or.inl HP.out)],stA HB.out _⟩,by simp [intOf];omega⟩
      ·by_cases q4:x.p=1
       ·have HP:=hid q4
        rw [q4] at x1
        clear q3 q4
        go_wp2
        exact ⟨⟨j+1,x.c,by omega,by simp,rfl,by rw [<- HE.out,HD.out,chk0 HQ.out (Or.inr HP.out)],stA HB.out _⟩,by simp [intOf];omega⟩
       ·have HP:Hid (¬ (x.p=0 \/ x.p=1)):=λe=>e.elim q3 q4
        have q3':(x.p != 0)=true:=by simpa using q3
        have q4':(x.p != 1)=true:=by simpa using q4
        clear q3 q4
        go_wp2
        all_goals first
         | (exfalso;simp_all;done)
         | (go_ret;exact ⟨by rw [<- HE.out,HD.out,chk5 HQ.out HP.out];rfl,stA HB.out _⟩)
   ·have hj2:j=l.length:=by omega
    subst hj2
    have hnl:¬ (l.length:Int)<l.length:=by omega
    clear hE hb
    go_wp2
    go_ret
    refine ⟨?_,HB.out⟩
    have:=HE.out
    rw [List.drop_length] at this
    rw [<- this];rfl
end Go.Proofs.YtbennamieealbaaGreatDoor
