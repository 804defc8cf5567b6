/-
  Parts of a proof, joined.
-/
import Derived.Test.YtbennamieealbaaGreatDoorZc27
import Derived.Deep.AppendLies
import Derived.Test.YtbennamieealbaaGreatDoorZc07
set_option linter.unusedVariables false
set_option maxRecDepth 100000
set_option maxHeartbeats 6400000
namespace Go.Proofs.YtbennamieealbaaGreatDoor
open Go.ChangeShapes Go.WideShapes Go.ChangeAt Go.RowKit
def lcs:List Lin->List Value
 | []=>[]
 | x::l=>.int .i64 x.f :: .int .i64 x.l::(row16 x.px++lcs l)
theorem ziz:∀ (l k:List Lin),lcs (l++k)=lcs l++lcs k
 | [],k=>rfl
 | x::l,k=>by simp only [lcs,List.cons_append,ziz l k,List.append_assoc]
structure CI (F : Fx) (N c : Nat) (vco vln vsm : Value) (w : World) (k : Cs) : Prop where
 i:BI F N w k.s
 cb:CB F N c vco vln vsm w
 co:InpAt F.B w vco k.co
 ok:∀ x∈k.co,x.ok
 ln:w.ownsRow N 62 18 vln k.ln.length (lcs k.ln)
 sm:w.ownsRow N 5 1 vsm k.sm.length (bcs k.sm)
section
variable {F : Fx} {N c : Nat} {vco vln vsm v' : Value} {w w1 : World} {k : Cs} {s' : Bst}
theorem zaI {t:TypeId} {z:Nat} {v:Value} {n:Nat} {xs:List Value} (h:w.ownsRow N t z v n xs):∀ j,v.ownBlock=some j->N<=j/\j<w.heap.size /\ ∃ cs,w.heap[j]? = some (.cells cs t (0,0)):=λj e=>by
 rcases h.2 with ⟨e0,_⟩|⟨g,cap,cur,e0,hb,hg,_⟩
 ·rw [e0] at e;cases e
 ·rw [e0] at e;cases e
  exact ⟨hb,(Array.getElem?_eq_some_iff.1 hg).1,_,hg⟩
theorem zd4 {t:TypeId} {z:Nat} {v:Value} {n:Nat} {xs:List Value} {s:Bst} (h:w.ownsRow N t z v n xs) (ht:t≠66):∀ j,v.ownBlock=some j->¬ Tw (BT N) w s j:=λj e=>by
 obtain ⟨h1,h2,cs,h3⟩:=zaI h j e
 exact Tw.of (λx=>Nat.not_lt.2 h1 x) h3 ht
theorem zbi {t t':TypeId} {z:Nat} {v:Value} {n:Nat} {xs:List Value} (h:w.ownsRow N t z v n xs) {b:Nat} {cs':Array Value} {fr:Nat × Nat} (hb:w.heap[b]? = some (.cells cs' t' fr)) (ht:t≠t'):v.ownBlock≠some b:=λe=>by
 obtain ⟨h1,h2,cs,h3⟩:=zaI h b e
 rw [hb] at h3
 simp only [Option.some.injEq,Obj.cells.injEq] at h3
 exact ht h3.2.1.symm
theorem CI.keep (hF:Fb F N) (h:CI F N c vco vln vsm w k) (hb:Below w.heap.size w w1):CI F N c vco vln vsm w1 k :=
 ⟨h.i.kept hF hb,h.cb.kept hb,h.co.kept (hb.mono h.i.big),h.ok,zaF h.ln (λj e=>hb.block j (zaI h.ln j e).2.1),zaF h.sm (λj e=>hb.block j (zaI h.sm j e).2.1)⟩
theorem CI.step (h:CI F N c vco vln vsm w k) (hm:NM F N w k.s s' w1):CI F N c vco vln vsm w1 { k with s:=s' } :=
 ⟨hm.i,hm.cb h.cb,h.co.kept hm.m.below,h.ok,zaF h.ln (λj e=>hm.m.block j (zaI h.ln j e).2.1 (zd4 h.ln (by decide) j e)),zaF h.sm (λj e=>hm.m.block j (zaI h.sm j e).2.1 (zd4 h.sm (by decide) j e))⟩
theorem CI.pressed {l:List Inp} (h:CI F N c vco vln vsm w k) (hx:XP F N c vln vsm w k.s s' v' l w1) (hl:∀ x∈l,x.ok):CI F N c v' vln vsm w1 { k with s:=s',co:=l } :=
 have hn:∀ {t:TypeId} {z:Nat} {v:Value} {n:Nat} {xs:List Value},w.ownsRow N t z v n xs->t≠66->t≠93->∀ j,v.ownBlock=some j->w1.heap[j]? = w.heap[j]?:=λho h1 h2 j e =>
  hx.km.m.block j (zaI ho j e).2.1 (λy=>y.elim (λe'=>zbi ho h.cb.blk h2 (by rw [e,e'])) (zd4 ho h1 j e))
 ⟨hx.km.i,hx.cb,hx.co,hl,zaF h.ln (hn h.ln (by decide) (by decide)),zaF h.sm (hn h.sm (by decide) (by decide))⟩
def Kp (N c:Nat) (w w1:World):Prop:=∀ (j:Nat) (cs:Array Value) (t:TypeId) (fr:Nat × Nat),N<=j->j≠c->t≠66->t≠62->t≠5->w.heap[j]? = some (.cells cs t fr)->w1.heap[j]? = some (.cells cs t fr)
theorem Kp.trans {w2:World} (h:Kp N c w w1) (k:Kp N c w1 w2):Kp N c w w2:=λj cs t fr h1 h2 h3 h4 h5 h6=>k j cs t fr h1 h2 h3 h4 h5 (h j cs t fr h1 h2 h3 h4 h5 h6)
theorem Kp.of (h:Below w.heap.size w w1):Kp N c w w1:=λj cs t fr _ _ _ _ _ h6=>(h.block j (Array.getElem?_eq_some_iff.1 h6).1).trans h6
theorem Kp.set (i:Nat) (v:Value):Kp N c w (w.setCell ⟨c,i,none⟩ v):=λj cs t fr _ h2 _ _ _ h6=>(zab h2 (v:=v)).trans h6
theorem Kp.grown {t':TypeId} {z n:Nat} {v:Value} {xs:List Value} (ht:t'=62 \/ t'=5) (ho:w.ownsRow N t' z v n xs) (hg:w.grownBy w1 v.ownBlock):Kp N c w w1:=λj cs t fr _ _ _ h4 h5 h6 =>
 (hg.block j (Array.getElem?_eq_some_iff.1 h6).1 (λe=>zbi ho h6 (by rcases ht with rfl|rfl;exact λe=>h4 e.symm;exact λe=>h5 e.symm) e.symm)).trans h6
theorem NM.kp {s:Bst} (h:NM F N w s s' w1):Kp N c w w1:=λj cs t fr h1 _ h3 _ _ h6=>(h.m.block j (Array.getElem?_eq_some_iff.1 h6).1 (Tw.of (λx=>Nat.not_lt.2 h1 x) h6 h3)).trans h6
theorem KM.kp {s:Bst} (h:KM F N c w s s' w1):Kp N c w w1:=λj cs t fr h1 h2 h3 _ _ h6=>(h.m.block j (Array.getElem?_eq_some_iff.1 h6).1 (λy=>y.elim h2 (Tw.of (λx=>Nat.not_lt.2 h1 x) h6 h3))).trans h6
theorem CI.big (hF:Fb F N) (h:CI F N c vco vln vsm w k):F.B<=c:=h.cb.big h.i hF
theorem CI.bigN (hF:Fb F N) (h:CI F N c vco vln vsm w k):F.B<=N:=by
 obtain ⟨v,hB⟩:=h.i.bd
 have:=hB.nd.lo.1
 have:=hF.into.g
 omega
theorem CI.grow3 {v':Value} {xs:List UInt8} (hF:Fb F N) (h:CI F N c vco vln vsm w k) (ho:w1.ownsRow N 5 1 v' xs.length (bcs xs)) (hg:w.grownBy w1 vsm.ownBlock) :
 CI F N c vco vln v' (w1.setCell ⟨c,3,none⟩ v') { k with sm:=xs }/\Below F.B w (w1.setCell ⟨c,3,none⟩ v'):=by
 have hz:=hg.size
 have hcn:some c≠vsm.ownBlock:=λe=>zbi h.sm h.cb.blk (by decide) e.symm
 have hcb:CB F N c vco vln vsm w1:=h.cb.same (hg.block c h.cb.z hcn)
 have hb:Below F.B w w1:=(Below.refl F.B w).grown hg h.i.big (λj e=>Nat.le_trans (h.bigN hF) (zaI h.sm j e).1)
 have hi:BI F N w1 k.s:=h.i.keep hF hz (λj hj=>hg.block j (hj.lt (λi hi=>Nat.lt_of_lt_of_le hi h.i.N)) (λe=>zd4 h.sm (by decide) j e.symm hj))
 have hln:w1.ownsRow N 62 18 vln k.ln.length (lcs k.ln):=zaF h.ln (λj e=>by
  obtain ⟨_,h2,cs,h3⟩:=zaI h.ln j e
  exact hg.block j h2 (λe'=>zbi h.sm h3 (by decide) e'.symm))
 exact ⟨⟨hi.keep hF (by rw [zas];exact Nat.le_refl _) (λj hj=>zab (λe=>hcb.out (by rw [<- e];exact hj))),hcb.put3 _,(h.co.kept hb).kept (Below.setCell (Below.refl _ _) (h.big hF) _),h.ok,zaF hln (λj e=>zab (λe'=>zbi hln hcb.blk (by decide) (by rw [e,e']))),zaF ho (λj e=>zab (λe'=>zbi ho hcb.blk (by decide) (by rw [e,e'])))⟩,hb.setCell (h.big hF) _⟩
theorem CI.grow2 {g cap:Nat} {xs:List Lin} (hF:Fb F N) (h:CI F N c vco vln vsm w k) (ho:w1.ownsRow N 62 18 (.slice (some ⟨g,0,none⟩) xs.length cap) xs.length (lcs xs)) (hg:w.grownBy w1 vln.ownBlock) :
 CI F N c vco (.slice (some ⟨g,0,none⟩) xs.length cap) vsm (w1.setCell ⟨c,2,none⟩ (.slice (some ⟨g,0,none⟩) xs.length cap)) { k with ln:=xs }/\Below F.B w (w1.setCell ⟨c,2,none⟩ (.slice (some ⟨g,0,none⟩) xs.length cap)):=by
 have hz:=hg.size
 have hcn:some c≠vln.ownBlock:=λe=>zbi h.ln h.cb.blk (by decide) e.symm
 have hcb:CB F N c vco vln vsm w1:=h.cb.same (hg.block c h.cb.z hcn)
 have hb:Below F.B w w1:=(Below.refl F.B w).grown hg h.i.big (λj e=>Nat.le_trans (h.bigN hF) (zaI h.ln j e).1)
 have hi:BI F N w1 k.s:=h.i.keep hF hz (λj hj=>hg.block j (hj.lt (λi hi=>Nat.lt_of_lt_of_le hi h.i.N)) (λe=>zd4 h.ln (by decide) j e.symm hj))
 have hsm:w1.ownsRow N 5 1 vsm k.sm.length (bcs k.sm):=zaF h.sm (λj e=>by
  obtain ⟨_,h2,cs,h3⟩:=zaI h.sm j e
  exact hg.block j h2 (λe'=>zbi h.ln h3 (by decide) e'.symm))
 exact ⟨⟨hi.keep hF (by rw [zas];exact Nat.le_refl _) (λj hj=>zab (λe=>hcb.out (by rw [<- e];exact hj))),hcb.put2 _,(h.co.kept hb).kept (Below.setCell (Below.refl _ _) (h.big hF) _),h.ok,zaF ho (λj e=>zab (λe'=>zbi ho hcb.blk (by decide) (by rw [e,e']))),zaF hsm (λj e=>zab (λe'=>zbi hsm hcb.blk (by decide) (by rw [e,e'])))⟩,hb.setCell (h.big hF) _⟩
end
section
variable {F : Fx} {N c : Nat} {vco vln vsm v' : Value} {w w1 : World} {k : Cs} {s' : Bst}
theorem zmB {W:World} {v:Value} {y:UInt8} (h:sliceAt W v [y]):∃ g o cap,v = .slice (some ⟨g,o,none⟩) 1 cap/\W.cell? ⟨g,o,none⟩=some (.int .u8 y.toNat)/\g<W.heap.size:=by
 rcases h with ⟨_,_,_,e⟩|⟨g,o,cap,h1,h2,h3,h4⟩
 ·cases e
 ·exact ⟨g,o,cap,h1,h4 0 y rfl,h3⟩
theorem app1G {ops:Array Oper} {rest:List Oper} {o:Oper} {a:Act} {w:World} {Q:Exit->Act->World->Prop} (hgd:o.guard=none) (s x:Operand) (ho:o.op = .call { callee:=.builtin .append,args:=#[s,x],argTypes:=#[26,26] })
 (B:Nat) (v:Value) (xs:List UInt8) (hs:a.eval s=v) (hown:w.ownsRow B 5 1 v xs.length (bcs xs)) (g o' c:Nat) (y:UInt8) (hx:a.eval x = .slice (some ⟨g,o',none⟩) 1 c) (hc:w.cell? ⟨g,o',none⟩=some (.int .u8 y.toNat)) (hl:xs.length<=100000) (hB:B<=w.heap.size)
 (h:∀ g1 cap w',w'.ownsRow B 5 1 (.slice (some ⟨g1,0,none⟩) (xs++[y]).length cap) (xs++[y]).length (bcs (xs++[y]))->w.grownBy w' v.ownBlock->g1<w'.heap.size->wpList Tryz.prog ops Q rest (a.put o.dst (.slice (some ⟨g1,0,none⟩) (xs++[y]).length cap)) w'):wpList Tryz.prog ops Q (o::rest) a w:=by
 obtain ⟨i0,hi0,hz0,hz1,hz2⟩:=info_parts zbu
 have e1:(xs++[y]).length=xs.length+1:=by simp
 have e2:bcs (xs++[y])=bcs xs++[.int .u8 y.toNat]:=by simp [bcs]
 rw [e1,e2] at h
 refine wpList_append_lies w hgd s x _ ho B 5 i0 _ 1 1 Tryz.underlying26 hi0 hz0 hz1 hz2 rfl (by omega) v xs.length (bcs xs) hs hown ⟨g,o',none⟩ 1 c [.int .u8 y.toNat] hx rfl (λj u hj=>?_) (λu hu=>?_) (by omega) (by unfold maxLen;omega) (by omega) hB _ rfl (λg1 cap w' h1 h2 _ h3=>h g1 cap w' h1 h2 h3)
 ·match j,hj with
  | 0,hj =>
   simp only [List.getElem?_cons_zero,Option.some.injEq] at hj
   rw [<- hj];exact hc
  | j+1,hj=>simp at hj
 ·simp only [List.mem_singleton] at hu
  rw [hu];rfl
theorem Lk.showSample (hF:Fb F N) (h:CI F N c vco vln vsm w k) (hl:k.sm.length<=100000):Calls Tryz.prog 61 #[pt c 0] w λe w'=>e = .returned (.tuple #[])/\(∃ vsm',CI F N c vco vln vsm' w' { k with sm:=k.sm++k.s.M.sample }/\Below F.B w w')/\Kp N c w w':=by
 obtain ⟨v,hB⟩:=h.i.bd
 obtain ⟨M,hM⟩:∃ M,M=k.s.M:=⟨_,rfl⟩
 rw [<- hM] at hB ⊢
 have k0:=h.cb.bx.at 0 _ rfl
 have kz:=h.cb.z
 have mz:=hB.bx.z
 have HF:=hid hF
 have H:=hid h
 have HB:=hid hB
 have HL:=hid hl
 have HSF:Hid M.s.fit:={ hB.fit.s with w:=hB.fit.w }
 by_cases hw:M.s.w=0
 ·have m60:w.cell? ⟨F.g,60,none⟩=some (.int .i64 0):=by rw [<- hw];exact hB.at 60 (.int .i64 M.s.w) rfl
  have e0:M.sample=[sm M.s]:=by
   unfold Mach.sample
   rw [if_pos hw]
   show []++one M.s=_
   unfold one
   rw [if_pos hw];rfl
  have e1:sms M.s 1=[sm M.s]:=by
   show []++one M.s=_
   unfold one
   rw [if_pos hw];rfl
  rw [e0]
  have HE1:=hid e1
  clear hF h hB hl hM hw e0 e1
  go_enter Tryz.func61,Tryz.ntmps61
  go_upto_region 2 with (first
   | (refine wpList_load_mid rfl 36 _ rfl F.g 45 rfl (sndL M.s) _ HB.out.sndR Tryz.underlying36 rfl zag ?_)
   | (go_at_call 65;refine (zfa M.s 1 _ HSF.out (by decide)).mono ?_;rintro e w2 ⟨v2,rfl,hs2,hb2⟩;have HB2:=hid hb2;have HS2:=hid hs2;clear hs2 hb2)
   | (refine wpList_store_mid rfl 36 _ _ rfl w2.heap.size 0 (sndL (M.s.ticks 1)).toArray rfl rfl ((Bx.new w2 zs 36 (b:=w2.heap.size) rfl).there 0 16 (by simp [zs])) zag (all16 (M.s.ticks 1)) ?_
      refine Pl.cutL (λZ=>Below w.heap.size w Z/\sliceAt Z v2 (sms M.s 1)) ⟨stp HB2.out (Bl.puts (stA (st0 w2) _) (Nat.le_refl _) _),HS2.out.kept (Bl.puts (stA (st0 w2) _) (Nat.le_refl _) _)⟩ ?_
      rintro Z ⟨hZ1,hZ2⟩
      have HZ1:=hid hZ1
      have HZ2:=hid hZ2
      clear hZ1 hZ2))
  have HC:=hid (H.out.keep HF.out HZ1.out)
  have hs1:=HZ2.out
  rw [HE1.out] at hs1
  obtain ⟨g0,o0,cap0,rfl,hcell,hgz⟩:=zmB hs1
  have HCE:=hid hcell
  have k3:=HC.out.cb.bx.at 3 vsm rfl
  have kz2:=HC.out.cb.z
  clear hs1 hcell k0 kz mz m60
  go_wp2_with (at_builtin;refine app1G (by rfl) _ _ (by rfl) N _ k.sm (by rfl) HC.out.sm g0 o0 cap0 (sm M.s) (by rfl) HCE.out HL.out (Nat.le_trans HC.out.i.N (Nat.le_refl _)) ?_;intro g1 cap1 W1 hown1 hg1 hz1;have HO1:=hid hown1;have HG1:=hid hg1;have hcb1:=HC.out.cb.same (hg1.block c HC.out.cb.z (λe=>zbi HC.out.sm HC.out.cb.blk (by decide) e.symm));have q3:=hcb1.bx.at 3 vsm rfl;have qz:=hcb1.z;have qf:=hcb1.bx.f 3;clear hcb1 hown1 hg1)
  go_end0
  obtain ⟨r1,r2⟩:=HC.out.grow3 HF.out HO1.out HG1.out
  rw [show (k.sm++[sm M.s]).length=k.sm.length+1 by simp] at r1 r2
  exact ⟨rfl,⟨_,r1,(HZ1.out.mono H.out.i.big).trans r2⟩,(Kp.of HZ1.out).trans ((Kp.grown (Or.inr rfl) HC.out.sm HG1.out).trans (Kp.set 3 _))⟩
 ·have hw':(M.s.w == 0)=false:=by simpa using hw
  have m60:=hB.at 60 (.int .i64 M.s.w) rfl
  have e0:M.sample=[]:=if_neg hw
  rw [e0,List.append_nil]
  clear hF h hB hl e0 hM
  go_enter Tryz.func61,Tryz.ntmps61
  go_wp2
  exact bodyPost_ret (v:=.tuple #[]) (by simp [results,Tryz.results61,go_sem]) rfl ⟨rfl,⟨vsm,H.out,Below.refl _ _⟩,Kp.of (Below.refl _ _)⟩
end
abbrev lineL (f:Int) (y:Nat) (r:Nat->Nat):List Value:=[Value.int .i64 f,Value.int .i64 y]++row16 r
theorem zdC:(Tryz.prog.info? 60).map (·.size)=some 16:=by kernel_rfl
theorem row_one (f:Nat->Nat):(row16 f).toArray.all (·.oneCell')=true:=all_oneCell_toArray (λv hv=>by
 unfold row16 at hv
 obtain ⟨x,_,rfl⟩:=List.mem_map.1 hv
 rfl)
theorem zji (f:Int) (y:Nat) (r:Nat->Nat) (w:World):(Instr.build 62 #[(0,.int .i64 f),(1,.int .i64 y),(2,.agg (row16 r).toArray)]).run Tryz.prog w = .ok (.agg (lineL f y r).toArray) w:=by kernel_rfl
theorem zhP (f:Int) (y:Nat) (r:Nat->Nat) (w:World):(Instr.buildSlice 47 1 #[(0,.agg (lineL f y r).toArray)]).run Tryz.prog w = .ok (.slice (some ⟨w.heap.size,0,none⟩) 1 1) (w.alloc (.cells (lineL f y r).toArray 62)):=by kernel_rfl
theorem zb4:(Tryz.prog.info? 62).map (λi=>(i.zero,i.size,i.bytes))=some (some (.agg (lineL 0 0 λ_=>0).toArray),18,32):=by kernel_rfl
theorem zd5 {P:Program} {ops:Array Oper} {op:Oper} {a:Act} {w w1:World} {K:Act->World->Prop} {Q:Exit->Act->World->Prop} {E:Prop} {v:Value} (hgd:op.guard=none) (ty:TypeId) (n i:Nat) (x:Operand) (ho:op.op = .buildSlice ty n #[(i,x)]) (xv:Value) (hx:a.eval x=xv)
 (hr:(Instr.buildSlice ty n #[(i,xv)]).run P w = .ok v w1) (h:K (a.put op.dst v) w1):if Region.wanted op (yielded ops a.tmps)=true then Oper.wp P op a w K Q else E:=by
 rw [if_pos (by simp [Region.wanted,hgd])]
 unfold Oper.wp
 have:(execOp a.eval op).run P w = .ok (.value v) w1:=by
  unfold execOp
  simp only [ho,List.map_toArray,List.map_cons,List.map_nil,hx,Sem.run_bind,hr,Result.andThen_ok,Sem.run_pure]
 rw [this]
 exact h
theorem zjj (f:Int) (y:Nat) (r:Nat->Nat):(lineL f y r).length=1*18:=by simp [zat]
theorem zff (L:List Value) (w:World) {t:TypeId}:∀ j u,L[j]? = some u->(w.alloc (.cells L.toArray t)).cell? ((⟨w.heap.size,0,none⟩:Addr).add j)=some u:=λj u hj=>by
 rw [addr_add,Nat.zero_add]
 exact (Bx.new w L t (b:=w.heap.size) rfl).at j u hj
theorem zjk (f:Int) (y:Nat) (r:Nat->Nat):∀ u∈(lineL f y r),u.oneCell'=true:=λu hu=>by
 rcases List.mem_append.1 hu with h|h
 ·simp only [List.mem_cons,List.not_mem_nil,or_false] at h
  rcases h with rfl|rfl <;> rfl
 ·unfold row16 at h
  obtain ⟨x,_,rfl⟩:=List.mem_map.1 h
  rfl
section
variable {F : Fx} {N c : Nat} {vco vln vsm v' : Value} {w w1 : World} {k : Cs} {s' : Bst} {M : Mach} {y b pb : Nat} {Y Y' : World}
theorem zmC {g cap:Nat} (h:w1.ownsRow N 62 18 (.slice (some ⟨g,0,none⟩) (k.ln.length+1) cap) (k.ln.length+1) (lcs k.ln++lineL M.b.f y (px M.video y))):w1.ownsRow N 62 18 (.slice (some ⟨g,0,none⟩) (k.ln++[(⟨M.b.f,y,px M.video y⟩:Lin)]).length cap) (k.ln++[(⟨M.b.f,y,px M.video y⟩:Lin)]).length (lcs (k.ln++[(⟨M.b.f,y,px M.video y⟩:Lin)])):=by
 have e1:(k.ln++[(⟨M.b.f,y,px M.video y⟩:Lin)]).length=k.ln.length+1:=by simp
 have e2:lcs (k.ln++[(⟨M.b.f,y,px M.video y⟩:Lin)])=lcs k.ln++lineL M.b.f y (px M.video y):=by rw [ziz];simp [lcs]
 rw [e1,e2]
 exact h
structure LB (F : Fx) (N c : Nat) (vco vln vsm : Value) (k : Cs) (w : World) (M : Mach) (y : Nat) (Y : World) : Prop where
 ci:CI F N c vco vln vsm Y k
 low:Below w.heap.size w Y
 bx:Bx Y w.heap.size [.int .i64 y,.int .i64 M.b.a,.bool M.b.g,.int .i64 M.b.f]
 m:k.s.M=M
 lo:∀ j,vln.ownBlock=some j->j<w.heap.size
structure LC (F : Fx) (N c : Nat) (vco vln vsm : Value) (k : Cs) (w : World) (M : Mach) (y pb : Nat) (Y : World) : Prop extends LB F N c vco vln vsm k w M y Y where
 pix:Bx Y pb (row16 (px M.video y))
 pz:w.heap.size<=pb
theorem LB.kept' (hF:Fb F N) (h:LB F N c vco vln vsm k w M y Y) (hb:Below Y.heap.size Y Y'):LB F N c vco vln vsm k w M y Y':=⟨h.ci.keep hF hb,stp h.low hb,h.bx.kept hb,h.m,h.lo⟩
theorem LC.kept' (hF:Fb F N) (h:LC F N c vco vln vsm k w M y pb Y) (hb:Below Y.heap.size Y Y'):LC F N c vco vln vsm k w M y pb Y':=⟨h.toLB.kept' hF hb,h.pix.kept hb,h.pz⟩
theorem LB.mm (h:LB F N c vco vln vsm k w M y Y):∃ g o cap,Mm Y M.video F.S.vi g o cap:=by
 obtain ⟨v,hB⟩:=h.ci.i.bd
 rw [h.m] at hB
 exact Mm.of hB.vi.slice hB.fit.video
theorem LB.s2 (h:LB F N c vco vln vsm k w M y Y):Y.cell? ⟨c,0,none⟩=some (pt F.g 0)/\Y.cell? ⟨F.g,34,none⟩=some F.S.vi/\Y.cell? ⟨w.heap.size,0,none⟩=some (.int .i64 y):=by
 obtain ⟨v,hB⟩:=h.ci.i.bd
 exact ⟨h.ci.cb.bx.at 0 _ rfl,hB.at 34 _ rfl,h.bx.at 0 _ rfl⟩
theorem LC.s2 (h:LC F N c vco vln vsm k w M y pb Y):Y.cell? ⟨c,0,none⟩=some (pt F.g 0)/\Y.cell? ⟨F.g,34,none⟩=some F.S.vi/\Y.cell? ⟨w.heap.size,0,none⟩=some (.int .i64 y):=h.toLB.s2
theorem LC.s3 (h:LC F N c vco vln vsm k w M y pb Y):Y.cell? ⟨c,2,none⟩=some vln/\Y.cell? ⟨w.heap.size,3,none⟩=some (.int .i64 M.b.f)/\Y.cell? ⟨w.heap.size,0,none⟩=some (.int .i64 y)/\Y.rangeAt pb 0 (row16 (px M.video y)) :=
 ⟨h.ci.cb.bx.at 2 _ rfl,h.bx.at 3 _ rfl,h.bx.at 0 _ rfl,h.pix.c⟩
theorem LC.of (hF:Fb F N) (h:LB F N c vco vln vsm k w M y Y) (hb:Below Y.heap.size Y Y') (hx:Bx Y' pb (row16 (px M.video y))) (hp:w.heap.size<=pb):LC F N c vco vln vsm k w M y pb Y':=⟨h.kept' hF hb,hx,hp⟩
theorem zmD {W:World} {L:List Value} {f:Nat->Nat} (h:Bx W pb L) (hl:L.length=16):Bx (W.setCells pb 0 (row16 f)) pb (row16 f):=by
 have:=h.puts 0 (row16 f) (by rw [zat];omega)
 rw [zau _ _ (by rw [zat,hl])] at this
 exact this
theorem LC.grown {W3:World} (h:LC F N c vco vln vsm k w M y pb Y) (hg:Y.grownBy W3 vln.ownBlock) :
 (W3.cell? ⟨c,2,none⟩=some vln/\W3.cell? ⟨w.heap.size,3,none⟩=some (.int .i64 M.b.f)/\W3.cell? ⟨w.heap.size,0,none⟩=some (.int .i64 y)/\W3.rangeAt pb 0 (row16 (px M.video y)))/\W3.cell? ⟨c,2,none⟩=some vln/\c<W3.heap.size/\W3.frozen? ⟨c,2,none⟩=false:=by
 have hc:=h.ci.cb.same (hg.block c h.ci.cb.z (λe=>zbi h.ci.ln h.ci.cb.blk (by decide) e.symm))
 have hb:W3.heap[w.heap.size]? = Y.heap[w.heap.size]?:=hg.block _ h.bx.z (λe=>by have:=h.lo _ e.symm;omega)
 have hp:W3.heap[pb]? = Y.heap[pb]?:=hg.block _ h.pix.z (λe=>by have:=h.lo _ e.symm;have:=h.pz;omega)
 have hx:=h.bx.same hg.size hb
 exact ⟨⟨hc.bx.at 2 _ rfl,hx.at 3 _ rfl,hx.at 0 _ rfl,(h.pix.same hg.size hp).c⟩,hc.bx.at 2 _ rfl,hc.z,hc.bx.f 2⟩
theorem LC.fin {W3:World} {g cap:Nat} (hF:Fb F N) (h:LC F N c vco vln vsm k w M y pb Y) (ho:W3.ownsRow N 62 18 (.slice (some ⟨g,0,none⟩) (k.ln.length+1) cap) (k.ln.length+1) (lcs k.ln++lineL M.b.f y (px M.video y))) (hg:Y.grownBy W3 vln.ownBlock) (hB:F.B<=w.heap.size) :
 CI F N c vco (.slice (some ⟨g,0,none⟩) (k.ln.length+1) cap) vsm (W3.setCell ⟨c,2,none⟩ (.slice (some ⟨g,0,none⟩) (k.ln.length+1) cap)) { k with ln:=k.ln++[(⟨M.b.f,y,px M.video y⟩:Lin)] }/\Below F.B w (W3.setCell ⟨c,2,none⟩ (.slice (some ⟨g,0,none⟩) (k.ln.length+1) cap))/\Kp N c w (W3.setCell ⟨c,2,none⟩ (.slice (some ⟨g,0,none⟩) (k.ln.length+1) cap)):=by
 obtain ⟨x,hx⟩:∃ x:Lin,x=⟨M.b.f,y,px M.video y⟩:=⟨_,rfl⟩
 rw [<- hx]
 have e1:(k.ln++[x]).length=k.ln.length+1:=by simp
 have ho':W3.ownsRow N 62 18 (.slice (some ⟨g,0,none⟩) (k.ln++[x]).length cap) (k.ln++[x]).length (lcs (k.ln++[x])):=by
  rw [hx];exact zmC ho
 obtain ⟨r1,r2⟩:=h.ci.grow2 (xs:=k.ln++[x]) hF ho' hg
 rw [e1] at r1 r2
 exact ⟨r1,(h.low.mono hB).trans r2,(Kp.of h.low).trans ((Kp.grown (Or.inl rfl) h.ci.ln hg).trans (Kp.set 2 _))⟩
theorem LB.start (hF:Fb F N) (h:CI F N c vco vln vsm w k) (hm:k.s.M=M):LB F N c vco vln vsm k w M y (w.alloc (.cells #[.int .i64 y,.int .i64 M.b.a,.bool M.b.g,.int .i64 M.b.f] 38)) :=
 ⟨h.keep hF (stA (st0 w) _),stA (st0 w) _,Bx.new w [.int .i64 y,.int .i64 M.b.a,.bool M.b.g,.int .i64 M.b.f] _ rfl,hm,λj e=>(zaI h.ln j e).2.1⟩
theorem Lk.showLine (hF:Fb F N) (h:CI F N c vco vln vsm w k) (hl:k.ln.length<=100000):Calls Tryz.prog 60 #[pt c 0] w λe w'=>e = .returned (.tuple #[])/\(∃ vln',CI F N c vco vln' vsm w' { k with ln:=k.ln++k.s.M.line }/\Below F.B w w')/\Kp N c w w':=by
 obtain ⟨v,hB⟩:=h.i.bd
 obtain ⟨M,hM⟩:∃ M,k.s.M=M:=⟨_,rfl⟩
 rw [hM] at hB ⊢
 have k0:=h.cb.bx.at 0 _ rfl
 have kz:=h.cb.z
 have m61:=hB.at 61 (.int .i64 M.b.l) rfl
 have m62:=hB.at 62 (.int .i64 M.b.a) rfl
 have m63:=hB.at 63 (.bool M.b.g) rfl
 have m64:=hB.at 64 (.int .i64 M.b.f) rfl
 have mz:=hB.bx.z
 have HF:=hid hF
 have H:=hid h
 have HL:=hid hl
 have hbl:=hB.fit.b.l0
 by_cases ha:M.b.a=0
 ·rw [ha] at m62
  by_cases h8:M.b.l<8
  ·obtain ⟨y,hy⟩:∃ y:Nat,M.b.l=y:=Int.eq_ofNat_of_zero_le hbl
   have e0:M.line=[⟨M.b.f,y,px M.video y⟩]:=by
    unfold Mach.line
    rw [if_pos ⟨ha,h8⟩,hy];rfl
   rw [e0]
   rw [hy] at m61 h8
   have h8':y<8:=by omega
   have HY8:=hid h8'
   have hst:=LB.start (y:=y) hF h hM
   rw [ha] at hst
   have HST:=hid hst
   have hya:¬ (8:Int)<=y:=by omega
   clear hF h hl hB hM e0 hst hbl h8 h8'
   go_enter Tryz.func60,Tryz.ntmps60
   go_upto_region 2 with fail
   refine Pl.cutW (LB F N c vco vln vsm k w M y) ?_ ?_
   ·exact HST.out
   intro Y hY
   have HLY:=hid hY.low
   have HY:=hid (hY.kept' HF.out (st0 Y).drew)
   clear hY HST k0 kz m61 m62 m63 m64 mz hya ha hy
   refine wp_region_held_drew (S:=λw'=>w'.cell? ⟨c,0,none⟩=some (pt F.g 0)/\w'.cell? ⟨F.g,34,none⟩=some F.S.vi/\w'.cell? ⟨w.heap.size,0,none⟩=some (.int .i64 y)) (by kernel_rfl) (HY.out.s2) ?_
   intro hS
   refine tqH 0 ⟨some 21,_,_,_,_,none⟩ hS ?_
   simp only [Act.put,xA,xB,xC]
   refine tqH 1 ⟨some 22,_,_,_,_,none⟩ hS ?_
   simp only [Act.put,xA,xB,xC]
   refine tqH 2 ⟨some 23,_,_,_,_,none⟩ hS ?_
   simp only [Act.put,xA,xB,xC]
   refine tqH 7 ⟨some 28,_,_,_,_,none⟩ hS ?_
   simp only [Act.put,xA,xB,xC]
   refine wpAnyH_take (i:=3) (oi:=⟨some 24,_,_,_,_,none⟩) (v:=pt F.g 0) rfl (by kernel_rfl) (by kernel_rfl) (by kernel_rfl) (λ_ _ _ h=>h) (Or.inl ⟨by rfl,?_⟩) hS ?_
   ·intro w' hSw
    have hcc:=hSw.1
    have hcz:=World.block_lt_of_cell? w' _ hcc
    go_simp
    try (with_reducible rfl)
   simp only [Act.put,xA,xB,xC]
   refine tqH 4 ⟨some 25,_,_,_,_,none⟩ hS ?_
   simp only [Act.put,xA,xB,xC]
   refine tqH 5 ⟨some 26,_,_,_,_,none⟩ hS ?_
   simp only [Act.put,xA,xB,xC]
   refine wpAnyH_take (i:=6) (oi:=⟨some 27,_,_,_,_,none⟩) (v:=F.S.vi) rfl (by kernel_rfl) (by kernel_rfl) (by kernel_rfl) (λ_ _ _ h=>h) (Or.inl ⟨by rfl,?_⟩) hS ?_
   ·intro w' hSw
    have hcc:=hSw.2.1
    have hcz:=World.block_lt_of_cell? w' _ hcc
    go_simp
    try (with_reducible rfl)
   simp only [Act.put,xA,xB,xC]
   refine wpAnyH_take (i:=8) (oi:=⟨some 29,_,_,_,_,none⟩) (v:=.int .i64 y) rfl (by kernel_rfl) (by kernel_rfl) (by kernel_rfl) (λ_ _ _ h=>h) (Or.inl ⟨by rfl,?_⟩) hS ?_
   ·intro w' hSw
    have hcc:=hSw.2.2
    have hcz:=World.block_lt_of_cell? w' _ hcc
    go_simp
    try (with_reducible rfl)
   simp only [Act.put,xA,xB,xC]
   refine wpAnyH_ready (rs:=[9,13]) (by kernel_rfl) (by simp) ?_
   refine AllReadyH.cons (o:=⟨some 30,_,_,_,_,none⟩) rfl (λK hK=>?_) (AllReadyH.cons (o:=⟨some 3,_,_,_,_,none⟩) rfl (λK hK=>?_) AllReadyH.nil)
   ·go_simp
    go_at_call 111
    obtain ⟨gm,om,cm,hmm⟩:=HY.out.mm
    refine (zmy M.video F.S.vi gm om cm y _ hmm HY8.out).mono ?_
    rintro e w2 ⟨rfl,hbw2⟩
    have HBw2:=hid (HY.out.kept' HF.out hbw2)
    clear hbw2 hmm
    try go_wp2_with fail
    refine hK.out _ _ HBw2.out.s2 (λ_=>?_)
    clear hK K hS
    have hS:=HBw2.out.s2
    try simp only [Act.put,xA,xB,xC]
    refine tqH 10 ⟨some 20,_,_,_,_,none⟩ hS ?_
    simp only [Act.put,xA,xB,xC]
    refine tqH 11 ⟨some 31,_,_,_,_,none⟩ hS ?_
    simp only [Act.put,xA,xB,xC]
    refine tqH 12 ⟨some 32,_,_,_,_,none⟩ hS ?_
    simp only [Act.put,xA,xB,xC]
    refine wpAnyH_ready (rs:=[13]) (by kernel_rfl) (by simp) ?_
    refine AllReadyH.cons (o:=⟨some 3,_,_,_,_,none⟩) rfl (λK hK=>?_) AllReadyH.nil
    go_simp
    have HBA:=hid (HBw2.out.kept' HF.out (stA (st0 w2) (.cells (row16 λ_=>0).toArray 60)))
    refine hK.out _ _ (HBA.out.s2) (λ_=>?_)
    clear hK K
    try simp only [Act.put,xA,xB,xC]
    clear hS
    have hS:=HBA.out.s2
    refine wpAnyH_ready (rs:=[14]) (by kernel_rfl) (by simp) ?_
    refine AllReadyH.cons (o:=⟨none,_,_,_,_,none⟩) rfl (λK hK=>?_) AllReadyH.nil
    refine zao rfl 60 _ _ rfl w2.heap.size 0 (row16 (px M.video y)).toArray rfl rfl ((Bx.new w2 (row16 λ_=>0) 60 (b:=w2.heap.size) rfl).there 0 16 (by rw [zat];decide)) zdC (row_one _) ?_
    have HBC:=hid (LC.of HF.out HBw2.out (Bl.puts (o:=0) (stA (st0 w2) (.cells (row16 λ_=>0).toArray 60)) (Nat.le_refl _) (row16 (px M.video y))) (zmD (Bx.new w2 (row16 λ_=>0) 60 (b:=w2.heap.size) rfl) (zat _)) HBw2.out.low.size)
    refine hK.out _ _ (HBC.out.s2) (λ_=>?_)
    clear hK K
    clear hS
    have hS:=HBC.out.s2
    refine tqH 15 ⟨some 4,_,_,_,_,none⟩ hS ?_
    simp only [Act.put,xA,xB,xC]
    refine wpAnyH_done (by kernel_rfl) ?_ _
    refine Pl.cutE (LC F N c vco vln vsm k w M y (w2.heap.size)) HBC.out ?_
    intro Z hZ
    have HZ:=hid (hZ.kept' HF.out (st0 Z).drew)
    clear hZ HBC hS
    have hS:=HZ.out.s3
    go_wp2
    refine zaN (S:=λw'=>w'.cell? ⟨c,2,none⟩=some vln/\w'.cell? ⟨w.heap.size,3,none⟩=some (.int .i64 M.b.f)/\w'.cell? ⟨w.heap.size,0,none⟩=some (.int .i64 y)/\w'.rangeAt w2.heap.size 0 (row16 (px M.video y))) (st:=17) (by kernel_rfl) ?_
    refine tqG 0 ⟨some 33,_,_,_,_,none⟩ (λ_=>hS) ?_
    simp only [Act.put,xA,xB,xC]
    refine tqG 1 ⟨some 34,_,_,_,_,none⟩ (λ_=>hS) ?_
    simp only [Act.put,xA,xB,xC]
    refine tqG 2 ⟨some 35,_,_,_,_,none⟩ (λ_=>hS) ?_
    simp only [Act.put,xA,xB,xC]
    refine tqG 3 ⟨some 36,_,_,_,_,none⟩ (λ_=>hS) ?_
    simp only [Act.put,xA,xB,xC]
    refine tqG 4 ⟨some 37,_,_,_,_,none⟩ (λ_=>hS) ?_
    simp only [Act.put,xA,xB,xC]
    refine tqG 6 ⟨some 39,_,_,_,_,none⟩ (λ_=>hS) ?_
    simp only [Act.put,xA,xB,xC]
    refine tqG 8 ⟨some 41,_,_,_,_,none⟩ (λ_=>hS) ?_
    simp only [Act.put,xA,xB,xC]
    refine zac (i:=5) (oi:=⟨some 38,_,_,_,_,none⟩) (v:=vln) rfl (by kernel_rfl) (by kernel_rfl) (by kernel_rfl) (by kernel_rfl) (by decide) (by kernel_rfl) (λ_ _ _ h=>h) (Or.inl ⟨by rfl,?_⟩) hS ?_
    ·intro w' hSw
     have hcc:=hSw.1
     have hcz:=World.block_lt_of_cell? w' _ hcc
     go_simp
     try (with_reducible rfl)
    simp only [Act.put,xA,xB,xC]
    refine zac (i:=7) (oi:=⟨some 40,_,_,_,_,none⟩) (v:=.int .i64 M.b.f) rfl (by kernel_rfl) (by kernel_rfl) (by kernel_rfl) (by kernel_rfl) (by decide) (by kernel_rfl) (λ_ _ _ h=>h) (Or.inl ⟨by rfl,?_⟩) hS ?_
    ·intro w' hSw
     have hcc:=hSw.2.1
     have hcz:=World.block_lt_of_cell? w' _ hcc
     go_simp
     try (with_reducible rfl)
    simp only [Act.put,xA,xB,xC]
    refine zac (i:=9) (oi:=⟨some 42,_,_,_,_,none⟩) (v:=.int .i64 y) rfl (by kernel_rfl) (by kernel_rfl) (by kernel_rfl) (by kernel_rfl) (by decide) (by kernel_rfl) (λ_ _ _ h=>h) (Or.inl ⟨by rfl,?_⟩) hS ?_
    ·intro w' hSw
     have hcc:=hSw.2.2.1
     have hcz:=World.block_lt_of_cell? w' _ hcc
     go_simp
     try (with_reducible rfl)
    simp only [Act.put,xA,xB,xC]
    refine zac (i:=10) (oi:=⟨some 43,_,_,_,_,none⟩) (v:=.agg (row16 (px M.video y)).toArray) rfl (by kernel_rfl) (by kernel_rfl) (by kernel_rfl) (by kernel_rfl) (by decide) (by kernel_rfl) (λ_ _ _ h=>h) (Or.inl ⟨by rfl,λw' hSw=>zaf 60 _ rfl (w2.heap.size) 0 rfl (row16 (px M.video y)) _ hSw.2.2.2 Tryz.underlying60 rfl (by rw [zat];exact zdC)⟩) hS ?_
    simp only [Act.put,xA,xB,xC]
    refine zaX (i:=11) (oi:=⟨some 44,_,_,_,_,none⟩) (v:=.agg (lineL M.b.f y (px M.video y)).toArray) rfl (by kernel_rfl) (by kernel_rfl) (by kernel_rfl) (by decide) (λ_ _ _ h=>h) (Or.inl ⟨by rfl,λw' _=>zbU 62 0 1 2 _ _ _ rfl (.int .i64 M.b.f) (.int .i64 y) (.agg (row16 (px M.video y)).toArray) (.agg (lineL M.b.f y (px M.video y)).toArray) rfl rfl rfl (zji M.b.f y (px M.video y) w')⟩) (λ_=>hS) ?_
    simp only [Act.put,xA,xB,xC]
    refine zam (i:=12) (o:=⟨some 45,_,_,_,_,none⟩) (by kernel_rfl) rfl (λK hK=>?_)
    refine zd5 rfl 47 1 0 _ rfl (.agg (lineL M.b.f y (px M.video y)).toArray) rfl (zhP M.b.f y (px M.video y) _) ?_
    have HZ1:=hid (HZ.out.kept' HF.out (stA (st0 Z.drew) (.cells (lineL M.b.f y (px M.video y)).toArray 62)))
    refine hK.out _ _ (λ_=>HZ1.out.s3) ?_
    clear hK K
    try simp only [Act.put,xA,xB,xC]
    clear hS
    have hS:=HZ1.out.s3
    refine zam (i:=13) (o:=⟨some 46,_,_,_,_,none⟩) (by kernel_rfl) rfl (λK hK=>?_)
    obtain ⟨i1,hj0,hy0,hy1,hy2⟩:=info_parts zb4
    refine step_append_lies _ (by rfl) (.tmp 38) (.tmp 45) 47 (by rfl) N 62 i1 _ 18 32 Tryz.underlying47 hj0 hy0 hy1 hy2 rfl (by omega) vln k.ln.length (lcs k.ln) rfl HZ1.out.ci.ln ⟨Z.heap.size,0,none⟩ 1 1 (lineL M.b.f y (px M.video y)) rfl (zjj _ _ _) (zff _ Z.drew) (zjk _ _ _) (by omega) (by unfold maxLen;have:=HL.out;omega) (by have:=HL.out;omega) (Nat.le_trans HZ1.out.ci.i.N (Nat.le_refl _)) _ rfl ?_
    intro g1 cap1 W3 hown1 hg1 hat1 hz1
    have HO1:=hid hown1
    have HG1:=hid hg1
    have HS3:=hid (HZ1.out.grown hg1)
    clear hown1 hg1 hat1 hz1
    refine hK.out _ _ (λ_=>HS3.out.1) ?_
    clear hK K
    try simp only [Act.put,xA,xB,xC]
    clear hS
    have hS:=HS3.out.1
    refine tqG 14 ⟨some 47,_,_,_,_,none⟩ (λ_=>hS) ?_
    simp only [Act.put,xA,xB,xC]
    refine tqG 15 ⟨some 48,_,_,_,_,none⟩ (λ_=>hS) ?_
    simp only [Act.put,xA,xB,xC]
    refine tqG 16 ⟨some 49,_,_,_,_,none⟩ (λ_=>hS) ?_
    simp only [Act.put,xA,xB,xC]
    obtain ⟨q2,qz,qf⟩:=HS3.out.2
    refine zam (i:=17) (o:=⟨none,_,_,_,_,none⟩) (by kernel_rfl) rfl (λK hK=>?_)
    go_simp
    refine hK.out _ _ (λh=>by simp at h) ?_
    clear hK K
    refine zaM (by kernel_rfl) ?_ _
    obtain ⟨r1,r2,r3⟩:=LC.fin HF.out HZ1.out HO1.out HG1.out H.out.i.big
    refine Pl.cutE (λV=>CI F N c vco (.slice (some ⟨g1,0,none⟩) (k.ln.length+1) cap1) vsm V { k with ln:=k.ln++[⟨M.b.f,y,px M.video y⟩] }/\Below F.B w V/\Kp N c w V) ⟨r1,r2,r3⟩ ?_
    rintro V ⟨hV1,hV2,hV3⟩
    have HV1:=hid hV1
    have HV2:=hid hV2
    have HV3:=hid hV3
    clear hV1 hV2 hV3 r1 r2 r3 HZ1 HO1 HG1 HS3 HZ q2 qz qf hS
    go_wp2
    go_end0
    exact ⟨rfl,⟨_,HV1.out,HV2.out⟩,HV3.out⟩
   ·go_simp
    have HBA:=hid (HY.out.kept' HF.out (stA (st0 Y.drew) (.cells (row16 λ_=>0).toArray 60)))
    have HBN:=hid (Bx.new Y.drew (row16 λ_=>0) 60 (b:=Y.heap.size) rfl)
    refine hK.out _ _ HBA.out.s2 (λ_=>?_)
    clear hK K hS
    have hS:=HBA.out.s2
    try simp only [Act.put,xA,xB,xC]
    refine wpAnyH_ready (rs:=[9]) (by kernel_rfl) (by simp) ?_
    refine AllReadyH.cons (o:=⟨some 30,_,_,_,_,none⟩) rfl (λK hK=>?_) AllReadyH.nil
    go_simp
    go_at_call 111
    obtain ⟨gm,om,cm,hmm⟩:=HBA.out.mm
    refine (zmy M.video F.S.vi gm om cm y _ hmm HY8.out).mono ?_
    rintro e w2 ⟨rfl,hbw2⟩
    have HBw2:=hid (HBA.out.kept' HF.out hbw2)
    have HQw2:=hid hbw2
    clear hbw2 hmm
    try go_wp2_with fail
    have HBO:=hid (HBN.out.kept HQw2.out)
    refine hK.out _ _ (HBw2.out.s2) (λ_=>?_)
    clear hK K
    try simp only [Act.put,xA,xB,xC]
    clear hS
    have hS:=HBw2.out.s2
    refine tqH 10 ⟨some 20,_,_,_,_,none⟩ hS ?_
    simp only [Act.put,xA,xB,xC]
    refine tqH 11 ⟨some 31,_,_,_,_,none⟩ hS ?_
    simp only [Act.put,xA,xB,xC]
    refine tqH 12 ⟨some 32,_,_,_,_,none⟩ hS ?_
    simp only [Act.put,xA,xB,xC]
    refine wpAnyH_ready (rs:=[14]) (by kernel_rfl) (by simp) ?_
    refine AllReadyH.cons (o:=⟨none,_,_,_,_,none⟩) rfl (λK hK=>?_) AllReadyH.nil
    refine zao rfl 60 _ _ rfl Y.heap.size 0 (row16 (px M.video y)).toArray rfl rfl (HBO.out.there 0 16 (by rw [zat];decide)) zdC (row_one _) ?_
    have HBC:=hid (LC.of HF.out HY.out (Bl.puts (o:=0) (stp (stA (st0 Y.drew) (.cells (row16 λ_=>0).toArray 60)) HQw2.out) (Nat.le_refl _) (row16 (px M.video y))) (zmD HBO.out (zat _)) HLY.out.size)
    refine hK.out _ _ (HBC.out.s2) (λ_=>?_)
    clear hK K
    clear hS
    have hS:=HBC.out.s2
    refine tqH 15 ⟨some 4,_,_,_,_,none⟩ hS ?_
    simp only [Act.put,xA,xB,xC]
    refine wpAnyH_done (by kernel_rfl) ?_ _
    refine Pl.cutE (LC F N c vco vln vsm k w M y (Y.heap.size)) HBC.out ?_
    intro Z hZ
    have HZ:=hid (hZ.kept' HF.out (st0 Z).drew)
    clear hZ HBC hS
    have hS:=HZ.out.s3
    go_wp2
    refine zaN (S:=λw'=>w'.cell? ⟨c,2,none⟩=some vln/\w'.cell? ⟨w.heap.size,3,none⟩=some (.int .i64 M.b.f)/\w'.cell? ⟨w.heap.size,0,none⟩=some (.int .i64 y)/\w'.rangeAt Y.heap.size 0 (row16 (px M.video y))) (st:=17) (by kernel_rfl) ?_
    refine tqG 0 ⟨some 33,_,_,_,_,none⟩ (λ_=>hS) ?_
    simp only [Act.put,xA,xB,xC]
    refine tqG 1 ⟨some 34,_,_,_,_,none⟩ (λ_=>hS) ?_
    simp only [Act.put,xA,xB,xC]
    refine tqG 2 ⟨some 35,_,_,_,_,none⟩ (λ_=>hS) ?_
    simp only [Act.put,xA,xB,xC]
    refine tqG 3 ⟨some 36,_,_,_,_,none⟩ (λ_=>hS) ?_
    simp only [Act.put,xA,xB,xC]
    refine tqG 4 ⟨some 37,_,_,_,_,none⟩ (λ_=>hS) ?_
    simp only [Act.put,xA,xB,xC]
    refine tqG 6 ⟨some 39,_,_,_,_,none⟩ (λ_=>hS) ?_
    simp only [Act.put,xA,xB,xC]
    refine tqG 8 ⟨some 41,_,_,_,_,none⟩ (λ_=>hS) ?_
    simp only [Act.put,xA,xB,xC]
    refine zac (i:=5) (oi:=⟨some 38,_,_,_,_,none⟩) (v:=vln) rfl (by kernel_rfl) (by kernel_rfl) (by kernel_rfl) (by kernel_rfl) (by decide) (by kernel_rfl) (λ_ _ _ h=>h) (Or.inl ⟨by rfl,?_⟩) hS ?_
    ·intro w' hSw
     have hcc:=hSw.1
     have hcz:=World.block_lt_of_cell? w' _ hcc
     go_simp
     try (with_reducible rfl)
    simp only [Act.put,xA,xB,xC]
    refine zac (i:=7) (oi:=⟨some 40,_,_,_,_,none⟩) (v:=.int .i64 M.b.f) rfl (by kernel_rfl) (by kernel_rfl) (by kernel_rfl) (by kernel_rfl) (by decide) (by kernel_rfl) (λ_ _ _ h=>h) (Or.inl ⟨by rfl,?_⟩) hS ?_
    ·intro w' hSw
     have hcc:=hSw.2.1
     have hcz:=World.block_lt_of_cell? w' _ hcc
     go_simp
     try (with_reducible rfl)
    simp only [Act.put,xA,xB,xC]
    refine zac (i:=9) (oi:=⟨some 42,_,_,_,_,none⟩) (v:=.int .i64 y) rfl (by kernel_rfl) (by kernel_rfl) (by kernel_rfl) (by kernel_rfl) (by decide) (by kernel_rfl) (λ_ _ _ h=>h) (Or.inl ⟨by rfl,?_⟩) hS ?_
    ·intro w' hSw
     have hcc:=hSw.2.2.1
     have hcz:=World.block_lt_of_cell? w' _ hcc
     go_simp
     try (with_reducible rfl)
    simp only [Act.put,xA,xB,xC]
    refine zac (i:=10) (oi:=⟨some 43,_,_,_,_,none⟩) (v:=.agg (row16 (px M.video y)).toArray) rfl (by kernel_rfl) (by kernel_rfl) (by kernel_rfl) (by kernel_rfl) (by decide) (by kernel_rfl) (λ_ _ _ h=>h) (Or.inl ⟨by rfl,λw' hSw=>zaf 60 _ rfl (Y.heap.size) 0 rfl (row16 (px M.video y)) _ hSw.2.2.2 Tryz.underlying60 rfl (by rw [zat];exact zdC)⟩) hS ?_
    simp only [Act.put,xA,xB,xC]
    refine zaX (i:=11) (oi:=⟨some 44,_,_,_,_,none⟩) (v:=.agg (lineL M.b.f y (px M.video y)).toArray) rfl (by kernel_rfl) (by kernel_rfl) (by kernel_rfl) (by decide) (λ_ _ _ h=>h) (Or.inl ⟨by rfl,λw' _=>zbU 62 0 1 2 _ _ _ rfl (.int .i64 M.b.f) (.int .i64 y) (.agg (row16 (px M.video y)).toArray) (.agg (lineL M.b.f y (px M.video y)).toArray) rfl rfl rfl (zji M.b.f y (px M.video y) w')⟩) (λ_=>hS) ?_
    simp only [Act.put,xA,xB,xC]
    refine zam (i:=12) (o:=⟨some 45,_,_,_,_,none⟩) (by kernel_rfl) rfl (λK hK=>?_)
    refine zd5 rfl 47 1 0 _ rfl (.agg (lineL M.b.f y (px M.video y)).toArray) rfl (zhP M.b.f y (px M.video y) _) ?_
    have HZ1:=hid (HZ.out.kept' HF.out (stA (st0 Z.drew) (.cells (lineL M.b.f y (px M.video y)).toArray 62)))
    refine hK.out _ _ (λ_=>HZ1.out.s3) ?_
    clear hK K
    try simp only [Act.put,xA,xB,xC]
    clear hS
    have hS:=HZ1.out.s3
    refine zam (i:=13) (o:=⟨some 46,_,_,_,_,none⟩) (by kernel_rfl) rfl (λK hK=>?_)
    obtain ⟨i1,hj0,hy0,hy1,hy2⟩:=info_parts zb4
    refine step_append_lies _ (by rfl) (.tmp 38) (.tmp 45) 47 (by rfl) N 62 i1 _ 18 32 Tryz.underlying47 hj0 hy0 hy1 hy2 rfl (by omega) vln k.ln.length (lcs k.ln) rfl HZ1.out.ci.ln ⟨Z.heap.size,0,none⟩ 1 1 (lineL M.b.f y (px M.video y)) rfl (zjj _ _ _) (zff _ Z.drew) (zjk _ _ _) (by omega) (by unfold maxLen;have:=HL.out;omega) (by have:=HL.out;omega) (Nat.le_trans HZ1.out.ci.i.N (Nat.le_refl _)) _ rfl ?_
    intro g1 cap1 W3 hown1 hg1 hat1 hz1
    have HO1:=hid hown1
    have HG1:=hid hg1
    have HS3:=hid (HZ1.out.grown hg1)
    clear hown1 hg1 hat1 hz1
    refine hK.out _ _ (λ_=>HS3.out.1) ?_
    clear hK K
    try simp only [Act.put,xA,xB,xC]
    clear hS
    have hS:=HS3.out.1
    refine tqG 14 ⟨some 47,_,_,_,_,none⟩ (λ_=>hS) ?_
    simp only [Act.put,xA,xB,xC]
    refine tqG 15 ⟨some 48,_,_,_,_,none⟩ (λ_=>hS) ?_
    simp only [Act.put,xA,xB,xC]
    refine tqG 16 ⟨some 49,_,_,_,_,none⟩ (λ_=>hS) ?_
    simp only [Act.put,xA,xB,xC]
    obtain ⟨q2,qz,qf⟩:=HS3.out.2
    refine zam (i:=17) (o:=⟨none,_,_,_,_,none⟩) (by kernel_rfl) rfl (λK hK=>?_)
    go_simp
    refine hK.out _ _ (λh=>by simp at h) ?_
    clear hK K
    refine zaM (by kernel_rfl) ?_ _
    obtain ⟨r1,r2,r3⟩:=LC.fin HF.out HZ1.out HO1.out HG1.out H.out.i.big
    refine Pl.cutE (λV=>CI F N c vco (.slice (some ⟨g1,0,none⟩) (k.ln.length+1) cap1) vsm V { k with ln:=k.ln++[⟨M.b.f,y,px M.video y⟩] }/\Below F.B w V/\Kp N c w V) ⟨r1,r2,r3⟩ ?_
    rintro V ⟨hV1,hV2,hV3⟩
    have HV1:=hid hV1
    have HV2:=hid hV2
    have HV3:=hid hV3
    clear hV1 hV2 hV3 r1 r2 r3 HZ1 HO1 HG1 HS3 HZ q2 qz qf hS
    go_wp2
    go_end0
    exact ⟨rfl,⟨_,HV1.out,HV2.out⟩,HV3.out⟩
  ·have e0:M.line=[]:=if_neg (λe=>h8 e.2)
   rw [e0,List.append_nil]
   have h8':(8:Int)<=M.b.l:=by omega
   clear hF h hl hB hM e0 h8
   go_enter Tryz.func60,Tryz.ntmps60
   go_wp2
   exact bodyPost_ret (v:=.tuple #[]) (by simp [results,Tryz.results60,go_sem]) rfl ⟨rfl,⟨vln,H.out.keep HF.out (stA (st0 w) _),(stA (st0 w) _).mono H.out.i.big⟩,Kp.of (stA (st0 w) _)⟩
 ·have e0:M.line=[]:=if_neg (λe=>ha e.1)
  rw [e0,List.append_nil]
  have ha':(M.b.a == 0)=false:=by simpa using ha
  clear hF h hl hB hM e0 hbl
  go_enter Tryz.func60,Tryz.ntmps60
  go_wp2
  exact bodyPost_ret (v:=.tuple #[]) (by simp [results,Tryz.results60,go_sem]) rfl ⟨rfl,⟨vln,H.out.keep HF.out (stA (st0 w) _),(stA (st0 w) _).mono H.out.i.big⟩,Kp.of (stA (st0 w) _)⟩
end
end Go.Proofs.YtbennamieealbaaGreatDoor
