/-
  Parts of a proof, joined.
-/
import Derived.Test.YtbennamieealbaaGreatDoorZc33
set_option linter.unusedVariables false
set_option maxRecDepth 100000
set_option maxHeartbeats 6400000
namespace Go.Proofs.YtbennamieealbaaGreatDoor
open Go.ChangeShapes Go.WideShapes Go.ChangeAt Go.RowKit
theorem zmY {Y:World} {v:Value} {l:List UInt8} {B:Nat} (h:sliceAt Y v l) (hn:∀ k,v.ownBlock=some k->k≠B) (o:Nat) (vs:List Value):sliceAt (Y.setCells B o vs) v l:=by
 rcases h with h|⟨g,o',cap,h1,h2,h3,h4⟩
 ·exact Or.inl h
 ·have hg:g≠B:=hn g (by rw [h1];rfl)
  exact Or.inr ⟨g,o',cap,h1,h2,by rw [zaQ];exact h3,λj c hj=>(World.cell?_of_block (w:=Y) (zad hg _ _ _)).trans (h4 j c hj)⟩
theorem zkh {Y:World} {g o cap:Nat} {x:UInt8} {tl:List UInt8} (h:sliceAt Y (.slice (some ⟨g,o,none⟩) (x::tl).length cap) (x::tl)):sliceAt Y (.slice (if cap=1 then some ⟨g,o,none⟩ else some ⟨g,o+1,none⟩) tl.length (cap-1)) tl:=by
 rcases h with ⟨_,_,_,e⟩|⟨g',o',cap',e,h2,h3,h4⟩
 ·cases e
 ·cases e
  by_cases ht:tl=[]
  ·subst ht
   exact Or.inl ⟨_,_,rfl,rfl⟩
  ·have hl:0<tl.length:=by
    cases tl with
    | nil=>exact absurd rfl ht
    | cons=>simp
   have h2':tl.length+1<=cap:=h2
   rw [if_neg (by omega)]
   refine Or.inr ⟨g,o+1,cap-1,rfl,by omega,h3,λj y hj=>?_⟩
   have:=h4 (j+1) y hj
   rw [show o+1+j=o+(j+1) by omega]
   exact this
theorem appG {ops:Array Oper} {rest:List Oper} {o:Oper} {a:Act} {w:World} {Q:Exit->Act->World->Prop} (hgd:o.guard=none) (s x:Operand) (ho:o.op = .call { callee:=.builtin .append,args:=#[s,x],argTypes:=#[26,26] })
 (B:Nat) (v:Value) (xs:List UInt8) (hs:a.eval s=v) (hown:w.ownsRow B 5 1 v xs.length (bcs xs)) (xv:Value) (hx:a.eval x=xv) (l:List UInt8) (hl:sliceAt w xv l) (hb:xs.length+l.length<=100000) (hB:B<=w.heap.size)
 (h:∀ v' w',w'.ownsRow B 5 1 v' (xs++l).length (bcs (xs++l))->w.grownBy w' v.ownBlock->wpList Tryz.prog ops Q rest (a.put o.dst v') w'):wpList Tryz.prog ops Q (o::rest) a w:=by
 obtain ⟨i0,hi0,hz0,hz1,hz2⟩:=info_parts zbu
 by_cases hl0:l=[]
 ·subst hl0
  have hxv:∃ ad c,xv = .slice ad 0 c:=by
   rcases hl with ⟨ad,c,h1,_⟩|⟨g,o',c,h1,_⟩
   ·exact ⟨ad,c,h1⟩
   ·exact ⟨_,c,h1⟩
  obtain ⟨ad,c,rfl⟩:=hxv
  refine wpList_plain hgd λK hK=>?_
  have hrun:=appendNo B i0 hi0 o.type v xs.length (bcs xs) hown ad c
  unfold Oper.wp
  simp [execOp,ho,resolve,invoke,builtin,hs,hx,hrun,Result.andThen]
  exact hK _ _ (h v w (by simpa using hown) ⟨rfl,rfl,rfl,Nat.le_refl _,λ_ _ _=>rfl⟩)
 ·rcases hl with ⟨ad,c,_,h2⟩|⟨g,o',c,h1,h2,h3,h4⟩
  ·exact absurd h2 hl0
  ·have hlen:0<l.length:=by cases l with|nil=>exact absurd rfl hl0|cons _ _=>simp
   refine wpList_append_lies _ hgd s x _ ho B 5 i0 _ 1 1 Tryz.underlying26 hi0 hz0 hz1 hz2 rfl (by omega) v xs.length (bcs xs) hs hown ⟨g,o',none⟩ l.length c (bcs l) (hx.trans h1) (by simp [bcs]) (λj u hj=>?_) (λu hu=>?_) hlen (by unfold maxLen;omega) (by omega) hB w.heap.size rfl ?_
   ·simp only [bcs,List.getElem?_map,Option.map_eq_some_iff] at hj
    obtain ⟨cc,hc1,hc2⟩:=hj
    rw [<- hc2,show (⟨g,o',none⟩:Addr).add j=⟨g,o'+j,none⟩ by unfold Addr.add;split <;> simp_all]
    exact h4 j cc hc1
   ·simp only [bcs,List.mem_map] at hu
    obtain ⟨cc,_,rfl⟩:=hu
    rfl
   ·intro g' cap w' hown' hgrow _ _
    refine h _ w' ?_ hgrow
    rw [List.length_append,<- zce];exact hown'
section
variable {F : Fx} {N c : Nat} {vco vln vsm : Value} {w w1 Y Y' : World} {k : Cs} {M : Mach} {tk : Tk} {d B : Nat} {v : Value} {tt : Int}
theorem Bd.ss5 (h:Bd F w M tk):w.rangeAt F.g 45 (sndL M.s)/\w.cell? ⟨F.g,72,none⟩=some (.int .i64 M.clock):=⟨h.sndR,h.at 72 _ rfl⟩
structure SV (F : Fx) (N c : Nat) (vco vln vsm : Value) (k : Cs) (M : Mach) (tk : Tk) (w : World) (Y : World) : Prop where
 ci:CI F N c vco vln vsm Y k
 bd:Bd F Y M tk
 low:Below w.heap.size w Y
theorem SV.kept' (hF:Fb F N) (h:SV F N c vco vln vsm k M tk w Y) (hb:Below Y.heap.size Y Y'):SV F N c vco vln vsm k M tk w Y':=⟨h.ci.keep hF hb,h.bd.kept hb,stp h.low hb⟩
structure SW (F : Fx) (N c : Nat) (vco vln vsm : Value) (k : Cs) (M : Mach) (tk : Tk) (w : World) (d B : Nat) (v : Value) (Y : World) : Prop extends SV F N c vco vln vsm k M tk w Y where
 bx:Bx Y B (sndL (M.s.ticks d))
 bz:w.heap.size<=B
 sl:sliceAt Y v (sms M.s d)
theorem zmZ {L:List Value} {x:Sd} (h:Bx Y B L) (hl:L.length=16):Bx (Y.setCells B 0 (sndL x)) B (sndL x):=by
 have:=h.puts 0 (sndL x) (by rw [hl];simp [sndL])
 rw [zau _ _ (by rw [hl];simp [sndL])] at this
 exact this
theorem SW.mk1 (hF:Fb F N) (h:SV F N c vco vln vsm k M tk w Y) (hs:sliceAt Y v (sms M.s d)):SW F N c vco vln vsm k M tk w d Y.heap.size v ((Y.alloc (.cells zs.toArray 36)).setCells Y.heap.size 0 (sndL (M.s.ticks d))):=by
 have hb:Below Y.heap.size Y ((Y.alloc (.cells zs.toArray 36)).setCells Y.heap.size 0 (sndL (M.s.ticks d))):=Bl.puts (stA (st0 Y) _) (Nat.le_refl _) _
 exact ⟨h.kept' hF hb,zmZ (Bx.new Y zs 36 (b:=Y.heap.size) rfl) (by simp [zs]),h.low.size,hs.kept hb⟩
theorem SW.mk2 (hF:Fb F N) (h:SV F N c vco vln vsm k M tk w w) (hb:Below (w.drew.alloc (.cells zs.toArray 36)).heap.size (w.drew.alloc (.cells zs.toArray 36)) w1) (hs:sliceAt w1 v (sms M.s d)) (ho:∀ k,v.ownBlock=some k->(w.drew.alloc (.cells zs.toArray 36)).heap.size+2<=k):SW F N c vco vln vsm k M tk w d w.heap.size v (w1.setCells w.heap.size 0 (sndL (M.s.ticks d))):=by
 have h1:Below w.heap.size w w1:=stp (stA (st0 w).drew (.cells zs.toArray 36)) hb
 have h2:Below w.heap.size w (w1.setCells w.heap.size 0 (sndL (M.s.ticks d))):=Bl.puts h1 (Nat.le_refl _) _
 exact ⟨h.kept' hF h2,zmZ ((Bx.new w.drew zs 36 (b:=w.heap.size) rfl).kept hb) (by simp [zs]),Nat.le_refl _,zmY hs (λj e=>by have:=ho j e;simp at this;omega) _ _⟩
structure SX (F : Fx) (N c : Nat) (vco vln vsm : Value) (k : Cs) (w : World) (x : Sd) (B : Nat) (Y : World) : Prop where
 ci:CI F N c vco vln vsm Y k
 bx:Bx Y B (sndL x)
 low:Below F.B w Y
 kp:Kp N c w Y
theorem SW.grown {v':Value} {xs:List UInt8} (hF:Fb F N) (hw:c<w.heap.size/\(∀ j,vsm.ownBlock=some j->j<w.heap.size)/\F.B<=w.heap.size) (h:SW F N c vco vln vsm k M tk w d B v Y) (ho:Y'.ownsRow N 5 1 v' xs.length (bcs xs)) (hg:Y.grownBy Y' vsm.ownBlock):SX F N c vco vln v' { k with sm:=xs } w (M.s.ticks d) B (Y'.setCell ⟨c,3,none⟩ v'):=by
 obtain ⟨r1,r2⟩:=h.ci.grow3 hF ho hg
 have hz:=h.bz
 exact ⟨r1,(h.bx.same hg.size (hg.block B h.bx.z (λe=>by have:=hw.2.1 _ e.symm;omega))).far (by omega) _,(h.low.mono hw.2.2).trans r2,(Kp.of h.low).trans ((Kp.grown (Or.inr rfl) h.ci.sm hg).trans (Kp.set 3 _))⟩
theorem Ct.soundTo (hF:Fb F N) (h:CI F N c vco vln vsm w k) (hl:k.sm.length<=90000) (ht:k.s.M.clock+1<=tt/\tt<=k.s.M.clock+64):Calls Tryz.prog 109 #[pt c 0,.int .i64 tt] w λe w'=>e = .returned (.tuple #[])/\(∃ vsm',CI F N c vco vln vsm' w' { k with s:=⟨k.s.M.cS tt,k.s.n,k.s.l⟩,sm:=k.sm++k.s.M.smp (tt-k.s.M.clock).toNat }/\Below F.B w w')/\Kp N c w w':=by
 obtain ⟨tv,hB⟩:=h.i.bd
 obtain ⟨M,hM⟩:∃ M,M=k.s.M:=⟨_,rfl⟩
 rw [<- hM] at hB ht ⊢
 obtain ⟨d,hd⟩:∃ d:Nat,d=(tt-M.clock).toNat:=⟨_,rfl⟩
 have hdt:tt-M.clock=d:=by omega
 have he:M.cS tt={ M with s:=M.s.ticks d }:=by unfold Mach.cS;rw [<- hd]
 rw [he,<- hd]
 have HD:Hid (1<=d/\d<=64):=hid (by omega)
 have hwr:IntKind.i64.wrap (tt-M.clock)=(d:Int):=by rw [IntKind.wrap_i64];omega
 obtain ⟨tk,htk⟩:∃ tk:Tk,tk=⟨k.s.n,k.s.l,tv⟩:=⟨_,rfl⟩
 rw [<- htk] at hB
 have HSF:Hid M.s.fit:={ hB.fit.s with w:=hB.fit.w }
 have k0:=h.cb.bx.at 0 _ rfl
 have kz:=h.cb.z
 have mz0:=hB.bx.z
 have HW:Hid (c<w.heap.size/\(∀ j,vsm.ownBlock=some j->j<w.heap.size)/\F.B<=w.heap.size):=hid ⟨kz,λj e=>(zaI h.sm j e).2.1,h.i.big⟩
 have H0:Hid (SV F N c vco vln vsm k M tk w w):=hid ⟨h,hB,st0 w⟩
 have HF:=hid hF
 have HL:=hid hl
 have HM:=hid hM
 have HTK:=hid htk
 clear hF h hl hB hM ht hd hdt he htk
 go_enter Tryz.func109,Tryz.ntmps109
 go_upto_region 1 with fail
 clear k0 kz mz0
 go_cut [0,1,4,5,6] (λu0 u1 u4 u5 u6 Y=>u0=pt c 0/\u1 = .int .i64 tt/\u4=pt F.g 0 /\ ∃ B,u6=pt B 0/\SW F N c vco vln vsm k M tk w d B u5 Y)
 case first =>
  refine wp_region_held_drew (S:=λw'=>w'.rangeAt F.g 45 (sndL M.s)/\w'.cell? ⟨F.g,72,none⟩=some (.int .i64 M.clock)) (by kernel_rfl) (H0.out.bd.drew.ss5) ?_
  intro hS
  refine tqH 0 ⟨some 13,_,_,_,_,none⟩ hS ?_
  simp only [Act.put,xA,xB,xC]
  refine tqH 1 ⟨some 14,_,_,_,_,none⟩ hS ?_
  simp only [Act.put,xA,xB,xC]
  refine tqH 2 ⟨some 15,_,_,_,_,none⟩ hS ?_
  simp only [Act.put,xA,xB,xC]
  refine wpAnyH_take (i:=3) (oi:=⟨some 16,_,_,_,_,none⟩) (v:=.agg (sndL M.s).toArray) rfl (by kernel_rfl) (by kernel_rfl) (by kernel_rfl) (λ_ _ _ h=>h) (Or.inl ⟨by rfl,λw' hSw=>zaf 36 _ rfl F.g 45 rfl (sndL M.s) _ hSw.1 Tryz.underlying36 rfl zag⟩) hS ?_
  simp only [Act.put,xA,xB,xC]
  refine tqH 4 ⟨some 17,_,_,_,_,none⟩ hS ?_
  simp only [Act.put,xA,xB,xC]
  refine tqH 5 ⟨some 18,_,_,_,_,none⟩ hS ?_
  simp only [Act.put,xA,xB,xC]
  refine tqH 6 ⟨some 19,_,_,_,_,none⟩ hS ?_
  simp only [Act.put,xA,xB,xC]
  refine tqH 7 ⟨some 20,_,_,_,_,none⟩ hS ?_
  simp only [Act.put,xA,xB,xC]
  refine wpAnyH_take (i:=8) (oi:=⟨some 21,_,_,_,_,none⟩) (v:=.int .i64 M.clock) rfl (by kernel_rfl) (by kernel_rfl) (by kernel_rfl) (λ_ _ _ h=>h) (Or.inl ⟨by rfl,?_⟩) hS ?_
  ·intro w' hSw
   have hcc:=hSw.2
   have hcz:=World.block_lt_of_cell? w' _ hcc
   go_simp
   try (with_reducible rfl)
  simp only [Act.put,xA,xB,xC]
  refine tqH 9 ⟨some 22,_,_,_,_,none⟩ hS ?_
  simp only [Act.put,xA,xB,xC]
  refine wpAnyH_ready (rs:=[10,15]) (by kernel_rfl) (by simp) ?_
  refine AllReadyH.cons (o:=⟨some 23,_,_,_,_,none⟩) rfl (λK hK=>?_) (AllReadyH.cons (o:=⟨some 6,_,_,_,_,none⟩) rfl (λK hK=>?_) AllReadyH.nil)
  ·go_simp
   go_at_call 65
   refine (zd3 M.s d _ HSF.out (by have:=HD.out;omega)).mono ?_
   rintro e w1 ⟨v1,rfl,hs1,ho1,hb1⟩
   have HS1:=hid hs1
   have HO1:=hid ho1
   have HB1:=hid hb1
   clear hs1 ho1 hb1
   try go_wp2_with fail
   have HG1:=hid (H0.out.kept' HF.out (stp (st0 w).drew HB1.out))
   refine hK.out _ _ (HG1.out.bd.ss5) (λ_=>?_)
   clear hK K hS
   have hS:=HG1.out.bd.ss5
   try simp only [Act.put,xA,xB,xC]
   refine tqH 11 ⟨some 12,_,_,_,_,none⟩ hS ?_
   simp only [Act.put,xA,xB,xC]
   refine tqH 12 ⟨some 24,_,_,_,_,none⟩ hS ?_
   simp only [Act.put,xA,xB,xC]
   refine tqH 13 ⟨some 25,_,_,_,_,none⟩ hS ?_
   simp only [Act.put,xA,xB,xC]
   refine tqH 14 ⟨some 26,_,_,_,_,none⟩ hS ?_
   simp only [Act.put,xA,xB,xC]
   refine wpAnyH_ready (rs:=[15]) (by kernel_rfl) (by simp) ?_
   refine AllReadyH.cons (o:=⟨some 6,_,_,_,_,none⟩) rfl (λK hK=>?_) AllReadyH.nil
   go_simp
   have HG2:=hid (HG1.out.kept' HF.out (stA (st0 w1) (.cells zs.toArray 36)))
   refine hK.out _ _ (HG2.out.bd.ss5) (λ_=>?_)
   clear hK K hS
   have hS:=HG2.out.bd.ss5
   try simp only [Act.put,xA,xB,xC]
   refine tqH 16 ⟨some 5,_,_,_,_,none⟩ hS ?_
   simp only [Act.put,xA,xB,xC]
   refine wpAnyH_ready (rs:=[17]) (by kernel_rfl) (by simp) ?_
   refine AllReadyH.cons (o:=⟨none,_,_,_,_,none⟩) rfl (λK hK=>?_) AllReadyH.nil
   refine zao rfl 36 _ _ rfl w1.heap.size 0 (sndL (M.s.ticks d)).toArray rfl rfl ((Bx.new w1 zs 36 (b:=w1.heap.size) rfl).there 0 16 (by simp [zs])) zag (all16 (M.s.ticks d)) ?_
   have HG3:=hid (SW.mk1 HF.out HG1.out HS1.out)
   refine hK.out _ _ (HG3.out.bd.ss5) (λ_=>?_)
   clear hK K hS
   have hS:=HG3.out.bd.ss5
   refine tqH 18 ⟨some 7,_,_,_,_,none⟩ hS ?_
   simp only [Act.put,xA,xB,xC]
   refine wpAnyH_done (by kernel_rfl) ?_ _
   go_wp2_with fail
   go_meet
   exact ⟨rfl,rfl,rfl,_,rfl,HG3.out⟩
  ·go_simp
   have HG1:=hid (H0.out.kept' HF.out (stA (st0 w).drew (.cells zs.toArray 36)))
   refine hK.out _ _ (HG1.out.bd.ss5) (λ_=>?_)
   clear hK K hS
   have hS:=HG1.out.bd.ss5
   try simp only [Act.put,xA,xB,xC]
   refine wpAnyH_ready (rs:=[10]) (by kernel_rfl) (by simp) ?_
   refine AllReadyH.cons (o:=⟨some 23,_,_,_,_,none⟩) rfl (λK hK=>?_) AllReadyH.nil
   go_simp
   go_at_call 65
   refine (zd3 M.s d _ HSF.out (by have:=HD.out;omega)).mono ?_
   rintro e w1 ⟨v1,rfl,hs1,ho1,hb1⟩
   have HS1:=hid hs1
   have HO1:=hid ho1
   have HB1:=hid hb1
   clear hs1 ho1 hb1
   try go_wp2_with fail
   have HG2:=hid (HG1.out.kept' HF.out HB1.out)
   refine hK.out _ _ (HG2.out.bd.ss5) (λ_=>?_)
   clear hK K hS
   have hS:=HG2.out.bd.ss5
   try simp only [Act.put,xA,xB,xC]
   refine tqH 11 ⟨some 12,_,_,_,_,none⟩ hS ?_
   simp only [Act.put,xA,xB,xC]
   refine tqH 12 ⟨some 24,_,_,_,_,none⟩ hS ?_
   simp only [Act.put,xA,xB,xC]
   refine tqH 13 ⟨some 25,_,_,_,_,none⟩ hS ?_
   simp only [Act.put,xA,xB,xC]
   refine tqH 14 ⟨some 26,_,_,_,_,none⟩ hS ?_
   simp only [Act.put,xA,xB,xC]
   refine tqH 16 ⟨some 5,_,_,_,_,none⟩ hS ?_
   simp only [Act.put,xA,xB,xC]
   refine wpAnyH_ready (rs:=[17]) (by kernel_rfl) (by simp) ?_
   refine AllReadyH.cons (o:=⟨none,_,_,_,_,none⟩) rfl (λK hK=>?_) AllReadyH.nil
   refine zao rfl 36 _ _ rfl w.heap.size 0 (sndL (M.s.ticks d)).toArray rfl rfl (((Bx.new w.drew zs 36 (b:=w.heap.size) rfl).kept HB1.out).there 0 16 (by simp [zs])) zag (all16 (M.s.ticks d)) ?_
   have HG3:=hid (SW.mk2 HF.out H0.out HB1.out HS1.out HO1.out)
   refine hK.out _ _ (HG3.out.bd.ss5) (λ_=>?_)
   clear hK K hS
   have hS:=HG3.out.bd.ss5
   refine tqH 18 ⟨some 7,_,_,_,_,none⟩ hS ?_
   simp only [Act.put,xA,xB,xC]
   refine wpAnyH_done (by kernel_rfl) ?_ _
   go_wp2_with fail
   go_meet
   exact ⟨rfl,rfl,rfl,_,rfl,HG3.out⟩
 case rest =>
  obtain ⟨rfl,rfl,rfl,B,rfl,hW⟩:=hcut
  have HY:=hid hW
  have hbd:(sms M.s d).length<=64:=by have:=zgd M.s d;have:=HD.out;omega
  have mz:=hW.bd.bx.z
  have kz:=hW.ci.cb.z
  have k3:=hW.ci.cb.bx.at 3 vsm rfl
  have hNs:N<=wc.heap.size:=hW.ci.i.N
  have HN:=hid hNs
  by_cases hw0:M.s.w=0
  ·have m60:wc.cell? ⟨F.g,60,none⟩=some (.int .i64 0):=by rw [<- hw0];exact hW.bd.at 60 (.int .i64 M.s.w) rfl
   obtain ⟨x,tl,hx⟩:∃ x tl,sms M.s d=x::tl:=by
    obtain ⟨j,rfl⟩:∃ j,d=1+j:=⟨d-1,by have:=HD.out;omega⟩
    have e1:sms M.s 1=[sm M.s]:=by
     show []++one M.s=_
     unfold one
     rw [if_pos hw0];rfl
    exact ⟨_,_,by rw [zdP,e1];rfl⟩
   have hsm:M.smp d=tl:=by unfold Mach.smp;rw [if_pos hw0,hx];rfl
   have HSM:=hid hsm
   have hsl:=hW.sl
   rw [hx] at hsl hbd
   rcases hsl with ⟨_,_,_,e⟩|⟨g,o,cap,rfl,g1,g2,g3⟩
   ·cases e
   ·have HTL:=hid (zkh (Or.inr ⟨g,o,cap,rfl,g1,g2,g3⟩))
    have hlen:((x::tl).length:Int)=(tl.length:Int)+1:=by simp
    have hlen0:(0:Int)<(tl.length:Int)+1:=by omega
    have HBD:Hid (k.sm.length+tl.length<=100000):=hid (by have:=HL.out;simp at hbd;omega)
    have hg1:tl.length+1<=cap:=g1
    clear hW hbd hw0 hx hsm g1 g2 g3 hNs
    rcases (by omega:cap=1 \/ 2<=cap) with rfl|hc2
    ·obtain rfl:tl=[]:=List.eq_nil_of_length_eq_zero (by omega)
     have HSL:Hid (sliceAt wc (.slice (some ⟨g,o,none⟩) 0 0) []):=hid (by have:=HTL.out;rw [if_pos rfl] at this;exact this)
     clear HTL
     go_upto_region 5 with (at_builtin;refine appG (by rfl) _ _ (by rfl) N _ k.sm (by rfl) HY.out.ci.sm _ (by rfl) [] HSL.out HBD.out HN.out ?_;intro v3 W1 hown1 hg1;obtain ⟨a3,n3,c3,e3⟩:=zje hown1;subst e3;have HO1:=hid hown1;have HG1:=hid hg1;have hcb1:=HY.out.ci.cb.same (hg1.block c HY.out.ci.cb.z (λe=>zbi HY.out.ci.sm HY.out.ci.cb.blk (by decide) e.symm));have q3:=hcb1.bx.at 3 vsm rfl;have qz:=hcb1.z;have qf:=hcb1.bx.f 3;clear hcb1 hown1 hg1)
     refine Pl.cutW (SX F N c vco vln (.slice a3 n3 c3) { k with sm:=k.sm++[] } w (M.s.ticks d) B) (SW.grown HF.out HW.out HY.out HO1.out HG1.out) ?_
     intro Z hZ
     have HZ:=hid hZ
     obtain ⟨tv2,hB2⟩:=hZ.ci.i.bd
     have hB3:Bd F Z M ⟨k.s.n,k.s.l,tv2⟩:=by rw [HM.out];exact hB2
     have HB3:=hid hB3
     have hnm:NM F N Z k.s ⟨{ M with s:=M.s.ticks d },k.s.n,k.s.l⟩ (Z.setCells F.g 45 (sndL (M.s.ticks d))):=NM.of (s':=⟨{ M with s:=M.s.ticks d },k.s.n,k.s.l⟩) HF.out hZ.ci.i hZ.ci.i.n (hB3.puts (M':={ M with s:=M.s.ticks d }) (tk':=⟨k.s.n,k.s.l,tv2⟩) 45 (sndL (M.s.ticks d)) (by simp [sndL]) (F.putSnd M _ _) ⟨rfl,rfl,rfl,rfl,rfl⟩ { hB3.fit with main:=hB3.fit.main,s:=(Sd.ticks_fit HSF.out d).took,w:=(Sd.ticks_fit HSF.out d).w }) (Bt.sets hB3.nd _ 45 _ (Bt.refl F Z))
     have HNM:=hid hnm
     clear hZ hB2 hB3 hnm q3 qz qf HY HO1 HG1 HSL k3 kz mz m60
     go_wp2_with (first
      | (refine wpList_load_mid rfl 36 _ rfl B 0 rfl (sndL (M.s.ticks d)) _ HZ.out.bx.c Tryz.underlying36 rfl zag ?_)
      | (refine wpList_store_mid rfl 36 _ _ rfl F.g 45 (sndL (M.s.ticks d)).toArray rfl rfl (Bx.there HB3.out.bx 45 16 (by rw [Fx.len];omega)) zag (all16 (M.s.ticks d)) ?_
         refine Pl.cutL (λV=>NM F N Z k.s ⟨{ M with s:=M.s.ticks d },k.s.n,k.s.l⟩ V) HNM.out ?_
         intro V hV
         have HV:=hid hV
         clear hV))
     go_end0
     rw [HSM.out]
     exact ⟨rfl,⟨⟨_,HZ.out.ci.step HV.out⟩,HZ.out.low.trans HV.out.m.below⟩,HZ.out.kp.trans HV.out.kp⟩
    ·obtain ⟨m,rfl⟩:∃ m,cap=m+2:=⟨cap-2,by omega⟩
     have HSL:Hid (sliceAt wc (.slice (some ⟨g,o+1,none⟩) tl.length (m+1)) tl):=hid (by have:=HTL.out;rw [if_neg (by omega)] at this;exact this)
     clear HTL hc2
     go_upto_region 5 with (at_builtin;refine appG (by rfl) _ _ (by rfl) N _ k.sm (by rfl) HY.out.ci.sm _ (by rfl) tl HSL.out HBD.out HN.out ?_;intro v3 W1 hown1 hg1;obtain ⟨a3,n3,c3,e3⟩:=zje hown1;subst e3;have HO1:=hid hown1;have HG1:=hid hg1;have hcb1:=HY.out.ci.cb.same (hg1.block c HY.out.ci.cb.z (λe=>zbi HY.out.ci.sm HY.out.ci.cb.blk (by decide) e.symm));have q3:=hcb1.bx.at 3 vsm rfl;have qz:=hcb1.z;have qf:=hcb1.bx.f 3;clear hcb1 hown1 hg1)
     refine Pl.cutW (SX F N c vco vln (.slice a3 n3 c3) { k with sm:=k.sm++tl } w (M.s.ticks d) B) (SW.grown HF.out HW.out HY.out HO1.out HG1.out) ?_
     intro Z hZ
     have HZ:=hid hZ
     obtain ⟨tv2,hB2⟩:=hZ.ci.i.bd
     have hB3:Bd F Z M ⟨k.s.n,k.s.l,tv2⟩:=by rw [HM.out];exact hB2
     have HB3:=hid hB3
     have hnm:NM F N Z k.s ⟨{ M with s:=M.s.ticks d },k.s.n,k.s.l⟩ (Z.setCells F.g 45 (sndL (M.s.ticks d))):=NM.of (s':=⟨{ M with s:=M.s.ticks d },k.s.n,k.s.l⟩) HF.out hZ.ci.i hZ.ci.i.n (hB3.puts (M':={ M with s:=M.s.ticks d }) (tk':=⟨k.s.n,k.s.l,tv2⟩) 45 (sndL (M.s.ticks d)) (by simp [sndL]) (F.putSnd M _ _) ⟨rfl,rfl,rfl,rfl,rfl⟩ { hB3.fit with main:=hB3.fit.main,s:=(Sd.ticks_fit HSF.out d).took,w:=(Sd.ticks_fit HSF.out d).w }) (Bt.sets hB3.nd _ 45 _ (Bt.refl F Z))
     have HNM:=hid hnm
     clear hZ hB2 hB3 hnm q3 qz qf HY HO1 HG1 HSL k3 kz mz m60
     go_wp2_with (first
      | (refine wpList_load_mid rfl 36 _ rfl B 0 rfl (sndL (M.s.ticks d)) _ HZ.out.bx.c Tryz.underlying36 rfl zag ?_)
      | (refine wpList_store_mid rfl 36 _ _ rfl F.g 45 (sndL (M.s.ticks d)).toArray rfl rfl (Bx.there HB3.out.bx 45 16 (by rw [Fx.len];omega)) zag (all16 (M.s.ticks d)) ?_
         refine Pl.cutL (λV=>NM F N Z k.s ⟨{ M with s:=M.s.ticks d },k.s.n,k.s.l⟩ V) HNM.out ?_
         intro V hV
         have HV:=hid hV
         clear hV))
     go_end0
     rw [HSM.out]
     exact ⟨rfl,⟨⟨_,HZ.out.ci.step HV.out⟩,HZ.out.low.trans HV.out.m.below⟩,HZ.out.kp.trans HV.out.kp⟩
  ·have hw':(M.s.w == 0)=false:=by simpa using hw0
   have m60:=hW.bd.at 60 (.int .i64 M.s.w) rfl
   have hsm:M.smp d=sms M.s d:=by unfold Mach.smp;rw [if_neg hw0]
   obtain ⟨L,hL⟩:∃ L,L=sms M.s d:=⟨_,rfl⟩
   rw [<- hL] at hsm
   have HSM:=hid hsm
   have HSL:Hid (sliceAt wc u5 L):=hid (by rw [hL];exact hW.sl)
   rw [<- hL] at hbd
   have HBD:Hid (k.sm.length+L.length<=100000):=hid (by have:=HL.out;omega)
   clear hW hbd hw0 hsm hL hNs
   go_upto_region 5 with (at_builtin;refine appG (by rfl) _ _ (by rfl) N _ k.sm (by rfl) HY.out.ci.sm _ (by rfl) L HSL.out HBD.out HN.out ?_;intro v3 W1 hown1 hg1;obtain ⟨a3,n3,c3,e3⟩:=zje hown1;subst e3;have HO1:=hid hown1;have HG1:=hid hg1;have hcb1:=HY.out.ci.cb.same (hg1.block c HY.out.ci.cb.z (λe=>zbi HY.out.ci.sm HY.out.ci.cb.blk (by decide) e.symm));have q3:=hcb1.bx.at 3 vsm rfl;have qz:=hcb1.z;have qf:=hcb1.bx.f 3;clear hcb1 hown1 hg1)
   refine Pl.cutW (SX F N c vco vln (.slice a3 n3 c3) { k with sm:=k.sm++L } w (M.s.ticks d) B) (SW.grown HF.out HW.out HY.out HO1.out HG1.out) ?_
   intro Z hZ
   have HZ:=hid hZ
   obtain ⟨tv2,hB2⟩:=hZ.ci.i.bd
   have hB3:Bd F Z M ⟨k.s.n,k.s.l,tv2⟩:=by rw [HM.out];exact hB2
   have HB3:=hid hB3
   have hnm:NM F N Z k.s ⟨{ M with s:=M.s.ticks d },k.s.n,k.s.l⟩ (Z.setCells F.g 45 (sndL (M.s.ticks d))):=NM.of (s':=⟨{ M with s:=M.s.ticks d },k.s.n,k.s.l⟩) HF.out hZ.ci.i hZ.ci.i.n (hB3.puts (M':={ M with s:=M.s.ticks d }) (tk':=⟨k.s.n,k.s.l,tv2⟩) 45 (sndL (M.s.ticks d)) (by simp [sndL]) (F.putSnd M _ _) ⟨rfl,rfl,rfl,rfl,rfl⟩ { hB3.fit with main:=hB3.fit.main,s:=(Sd.ticks_fit HSF.out d).took,w:=(Sd.ticks_fit HSF.out d).w }) (Bt.sets hB3.nd _ 45 _ (Bt.refl F Z))
   have HNM:=hid hnm
   clear hZ hB2 hB3 hnm q3 qz qf HY HO1 HG1 HSL k3 kz mz m60
   go_wp2_with (first
    | (refine wpList_load_mid rfl 36 _ rfl B 0 rfl (sndL (M.s.ticks d)) _ HZ.out.bx.c Tryz.underlying36 rfl zag ?_)
    | (refine wpList_store_mid rfl 36 _ _ rfl F.g 45 (sndL (M.s.ticks d)).toArray rfl rfl (Bx.there HB3.out.bx 45 16 (by rw [Fx.len];omega)) zag (all16 (M.s.ticks d)) ?_
       refine Pl.cutL (λV=>NM F N Z k.s ⟨{ M with s:=M.s.ticks d },k.s.n,k.s.l⟩ V) HNM.out ?_
       intro V hV
       have HV:=hid hV
       clear hV))
   go_end0
   rw [HSM.out]
   exact ⟨rfl,⟨⟨_,HZ.out.ci.step HV.out⟩,HZ.out.low.trans HV.out.m.below⟩,HZ.out.kp.trans HV.out.kp⟩
end
structure Rn where
 r:Nat
 b1:Nat
 b2:Nat
 b3:Nat
 b4:Nat
 b5:Nat
 b6:Nat
abbrev evs (b1 b2:Nat):List Value:=[.func (.func 94) #[] #[pt b1 0],.func (.func 96) #[] #[pt b2 0],.func (.func 98) #[] #[pt b2 0],.func (.func 100) #[] #[pt b2 0]]
abbrev pts (b4 b5:Nat):List Value:=[.func (.func 102) #[] #[pt b5 0],.func (.func 104) #[] #[pt b5 0],.func (.func 105) #[] #[pt b5 0],.func (.func 107) #[] #[pt b5 0],.func (.func 108) #[] #[pt b4 0]]
structure EvB (F : Fx) (c b1 b2 b3 : Nat) (w : World) : Prop where
 x1:w.heap[b1]? = some (.cells #[pt c 0] 83 (0,0))
 x2:w.heap[b2]? = some (.cells #[pt F.g 0] 90 (0,0))
 x3:w.heap[b3]? = some (.cells (evs b1 b2).toArray 189 (0,0))
structure PtB (F : Fx) (c b4 b5 b6 : Nat) (w : World) : Prop where
 x1:w.heap[b4]? = some (.cells #[pt c 0] 83 (0,0))
 x2:w.heap[b5]? = some (.cells #[pt F.g 0] 90 (0,0))
 x3:w.heap[b6]? = some (.cells (pts b4 b5).toArray 143 (0,0))
structure RnB (F : Fx) (N c : Nat) (e : Int) (R : Rn) (w : World) : Prop where
 n:N<=R.r/\N<=R.b1/\N<=R.b2/\N<=R.b3/\N<=R.b4/\N<=R.b5/\N<=R.b6
 ne:R.r≠c/\R.b1≠c/\R.b2≠c/\R.b3≠c/\R.b4≠c/\R.b5≠c/\R.b6≠c
 xr:w.heap[R.r]? = some (.cells #[pt c 0,.int .i64 e,.slice (some ⟨R.b3,0,none⟩) 4 4,.slice (some ⟨R.b6,0,none⟩) 5 5] 140 (0,0))
 ev:EvB F c R.b1 R.b2 R.b3 w
 pb:PtB F c R.b4 R.b5 R.b6 w
theorem zaV {w:World} {b:Nat} {cs:Array Value} {t:TypeId} {fr:Nat × Nat} (h:w.heap[b]? = some (.cells cs t fr)) (i:Nat) (v:Value) (e:cs[i]? = some v):w.cell? ⟨b,i,none⟩=some v:=(Lib.cell_of_heap h i).trans e
theorem three (w:World) (o1 o2 o3:Obj):(((w.alloc o1).alloc o2).alloc o3).heap[w.heap.size]? = some o1/\(((w.alloc o1).alloc o2).alloc o3).heap[w.heap.size+1]? = some o2/\(((w.alloc o1).alloc o2).alloc o3).heap[w.heap.size+1+1]? = some o3:=by
 have e1:(((w.alloc o1).alloc o2).alloc o3).heap=((w.heap.push o1).push o2).push o3:=rfl
 rw [e1]
 refine ⟨?_,?_,?_⟩
 ·rw [Array.getElem?_push,if_neg (by simp;omega),Array.getElem?_push,if_neg (by simp),Array.getElem?_push,if_pos rfl]
 ·rw [Array.getElem?_push,if_neg (by simp),Array.getElem?_push,if_pos (by simp)]
 ·rw [Array.getElem?_push,if_pos (by simp)]
section
variable {F : Fx} {N c : Nat} {vco vln vsm : Value} {w w1 w2 w3 : World} {k q : Cs} {M M' : Mach} {tk : Tk} {e tt : Int} {R : Rn} {b1 b2 b3 b4 b5 b6 : Nat}
theorem EvB.kept (h:EvB F c b1 b2 b3 w) (hb:Below w.heap.size w w1):EvB F c b1 b2 b3 w1 :=
 ⟨(hb.block _ (Array.getElem?_eq_some_iff.1 h.x1).1).trans h.x1,(hb.block _ (Array.getElem?_eq_some_iff.1 h.x2).1).trans h.x2,(hb.block _ (Array.getElem?_eq_some_iff.1 h.x3).1).trans h.x3⟩
theorem RnB.kp (h:RnB F N c e R w) (k:Kp N c w w1):RnB F N c e R w1:=by
 obtain ⟨n0,n1,n2,n3,n4,n5,n6⟩:=h.n
 obtain ⟨m0,m1,m2,m3,m4,m5,m6⟩:=h.ne
 exact ⟨h.n,h.ne,k _ _ _ _ n0 m0 (by decide) (by decide) (by decide) h.xr,
  ⟨k _ _ _ _ n1 m1 (by decide) (by decide) (by decide) h.ev.x1,k _ _ _ _ n2 m2 (by decide) (by decide) (by decide) h.ev.x2,k _ _ _ _ n3 m3 (by decide) (by decide) (by decide) h.ev.x3⟩,
  ⟨k _ _ _ _ n4 m4 (by decide) (by decide) (by decide) h.pb.x1,k _ _ _ _ n5 m5 (by decide) (by decide) (by decide) h.pb.x2,k _ _ _ _ n6 m6 (by decide) (by decide) (by decide) h.pb.x3⟩⟩
theorem RnB.rc (h:RnB F N c e R w) (i:Nat) (v:Value) (hi:(#[pt c 0,.int .i64 e,.slice (some ⟨R.b3,0,none⟩) 4 4,.slice (some ⟨R.b6,0,none⟩) 5 5]:Array Value)[i]? = some v):w.cell? ⟨R.r,i,none⟩=some v:=zaV h.xr i v hi
theorem RnB.z (h:RnB F N c e R w):R.r<w.heap.size:=(Array.getElem?_eq_some_iff.1 h.xr).1
theorem CI.mach {v:Value} (hF:Fb F N) (h:CI F N c vco vln vsm w q) (hB:Bd F w1 M' ⟨q.s.n,q.s.l,v⟩) (hT:Bt F w w1):CI F N c vco vln vsm w1 { q with s:=⟨M',q.s.n,q.s.l⟩ }/\Below F.B w w1/\Kp N c w w1:=by
 have hn:NM F N w q.s ⟨M',q.s.n,q.s.l⟩ w1:=NM.of (s':=⟨M',q.s.n,q.s.l⟩) hF h.i h.i.n hB hT
 exact ⟨h.step hn,hn.m.below,hn.kp⟩
theorem Ct.up {fn:Nat} {b:Nat} {f:Mach->Int->Mach} (hF:Fb F N) (h:CI F N c vco vln vsm w q) (ht:q.s.M.clock<=tt/\tt<=q.s.M.clock+64)
 (hc:∀ tk,Bd F w q.s.M tk->q.s.M.clock<=tt/\tt<=q.s.M.clock+64->Calls Tryz.prog fn #[.int .i64 tt,pt b 0] w λe w'=>e = .returned (.tuple #[])/\Bd F w' (f q.s.M tt) tk/\Bt F w w') :
 Calls Tryz.prog fn #[.int .i64 tt,pt b 0] w λe w'=>e = .returned (.tuple #[])/\CI F N c vco vln vsm w' { q with s:=⟨f q.s.M tt,q.s.n,q.s.l⟩ }/\Below F.B w w'/\Kp N c w w':=by
 obtain ⟨v,hB⟩:=h.i.bd
 refine (hc _ hB ht).mono ?_
 rintro en w' ⟨rfl,hB',hT⟩
 exact ⟨rfl,h.mach hF hB' hT⟩
theorem Ct.eventsOf (hc:w.cell? ⟨c,0,none⟩=some (pt F.g 0)):Calls Tryz.prog 56 #[pt c 0] w λen w'=>(∃ b1 b2 b3,en = .returned (.slice (some ⟨b3,0,none⟩) 4 4)/\EvB F c b1 b2 b3 w'/\w.heap.size<=b1/\w.heap.size<=b2/\w.heap.size<=b3)/\Below w.heap.size w w':=by
 have hz:=World.block_lt_of_cell? w _ hc
 go_enter Tryz.func56,Tryz.ntmps56
 go_wp2
 go_ret
 exact ⟨⟨w.heap.size,w.heap.size+1,w.heap.size+1+1,rfl,⟨(three w _ _ _).1,(three w _ _ _).2.1,(three w _ _ _).2.2⟩,by omega,by omega,by omega⟩,stA (stA (stA (st0 w) _) _) _⟩
theorem Ct.partsOf (hc:w.cell? ⟨c,0,none⟩=some (pt F.g 0)):Calls Tryz.prog 57 #[pt c 0] w λen w'=>(∃ b1 b2 b3,en = .returned (.slice (some ⟨b3,0,none⟩) 5 5)/\PtB F c b1 b2 b3 w'/\w.heap.size<=b1/\w.heap.size<=b2/\w.heap.size<=b3)/\Below w.heap.size w w':=by
 have hz:=World.block_lt_of_cell? w _ hc
 go_enter Tryz.func57,Tryz.ntmps57
 go_wp2
 go_ret
 exact ⟨⟨w.heap.size,w.heap.size+1,w.heap.size+1+1,rfl,⟨(three w _ _ _).1,(three w _ _ _).2.1,(three w _ _ _).2.2⟩,by omega,by omega,by omega⟩,stA (stA (stA (st0 w) _) _) _⟩
theorem PtB.over (h:PtB F c b4 b5 b6 w) (o:Obj):PtB F c b4 b5 b6 (w.alloc o) :=
 ⟨((stA (st0 w) o).block _ (Array.getElem?_eq_some_iff.1 h.x1).1).trans h.x1,((stA (st0 w) o).block _ (Array.getElem?_eq_some_iff.1 h.x2).1).trans h.x2,((stA (st0 w) o).block _ (Array.getElem?_eq_some_iff.1 h.x3).1).trans h.x3⟩
theorem Ct.newRunner (hc:w.cell? ⟨c,0,none⟩=some (pt F.g 0)) (hN:N<=w.heap.size) (e:Int):Calls Tryz.prog 31 #[pt c 0,.int .i64 e] w λen w'=>(∃ R,en = .returned (pt R.r 0)/\RnB F N c e R w')/\Below w.heap.size w w':=by
 have hz:=World.block_lt_of_cell? w _ hc
 have HC:=hid hc
 have HN:=hid hN
 clear hc hN
 go_enter Tryz.func31,Tryz.ntmps31
 go_wp2_with (first
  | (go_at_call 57;refine (Ct.partsOf (F:=F) (c:=c) (HC1.out)).mono ?_;rintro en w2 ⟨⟨b4,b5,b6,rfl,hp,p1,p2,p3⟩,hb2⟩;have HP:=hid hp;have HB2:=hid hb2;have HPZ:=hid (show w1.heap.size<=b4/\w1.heap.size<=b5/\w1.heap.size<=b6 from ⟨p1,p2,p3⟩);clear hp hb2 p1 p2 p3)
  | (go_at_call 56;refine (Ct.eventsOf (F:=F) (c:=c) HC.out).mono ?_;rintro en w1 ⟨⟨b1,b2,b3,rfl,he,p1,p2,p3⟩,hb1⟩;have HE:=hid he;have HB1:=hid hb1;have HC1:=hid ((hb1.cell (p:=⟨c,0,none⟩) hz).trans HC.out);have HEZ:=hid (show w.heap.size<=b1/\w.heap.size<=b2/\w.heap.size<=b3 from ⟨p1,p2,p3⟩);clear he hb1 p1 p2 p3))
 go_ret
 have z1:=HB1.out.size
 have z2:=HB2.out.size
 obtain ⟨y1,y2,y3⟩:=HEZ.out
 obtain ⟨y4,y5,y6⟩:=HPZ.out
 have hN:=HN.out
 have hb:Below w.heap.size w w2:=stp HB1.out HB2.out
 exact ⟨⟨⟨w2.heap.size,b1,b2,b3,b4,b5,b6⟩,rfl,⟨⟨by dsimp only;omega,by dsimp only;omega,by dsimp only;omega,by dsimp only;omega,by dsimp only;omega,by dsimp only;omega,by dsimp only;omega⟩,⟨by dsimp only;omega,by dsimp only;omega,by dsimp only;omega,by dsimp only;omega,by dsimp only;omega,by dsimp only;omega,by dsimp only;omega⟩,heap_alloc_new w2 _,(HE.out.kept HB2.out).kept (stA (st0 w2) _),HP.out.over _⟩⟩,stA hb _⟩
theorem Ct.next (hF:Fb F N) (h:CI F N c vco vln vsm w k) (hR:RnB F N c e R w):Calls Tryz.prog 58 #[pt R.r 0] w λen w'=>en = .returned (.int .i64 (k.nxtG e))/\Below w.heap.size w w':=by
 have r1:=hR.rc 1 _ rfl
 have r2:=hR.rc 2 _ rfl
 have rz:=hR.z
 have H:=hid h
 have HR:=hid hR
 have HF:=hid hF
 clear h hR hF
 go_enter Tryz.func58,Tryz.ntmps58
 go_wp2
 clear r1 r2 rz
 go_loopw [3,15] (λt i wr=>Below w.heap.size w wr/\((i = .int .i64 0/\t = .int .i64 e) \/ (i = .int .i64 1/\t = .int .i64 (min e k.nxP)) \/ (i = .int .i64 2/\t = .int .i64 (min e (min k.nxP (k.s.M.clock+k.s.M.b.tol)))) \/ (i = .int .i64 3/\t = .int .i64 (min e (min k.nxP (min (k.s.M.clock+k.s.M.b.tol) k.s.M.nxM)))) \/ (i = .int .i64 4/\t = .int .i64 (k.nxtG e)))) (λ_ i _=>4-(intOf i).toNat)
 case atStart=>exact ⟨st0 w,Or.inl ⟨rfl,rfl⟩⟩
 case round =>
  obtain ⟨hb,hi⟩:=hrel
  have HB:=hid hb
  have hc:=H.out.keep HF.out hb
  have hr:=HR.out.kp (Kp.of hb)
  obtain ⟨tv,hBd⟩:=hc.i.bd
  have HC:=hid hc
  have HBD:=hid hBd
  have c1:=hid (zaV hr.ev.x1 0 _ rfl)
  have c2:=hid (zaV hr.ev.x2 0 _ rfl)
  have e0:=zaV hr.ev.x3 0 _ rfl
  have e1:=zaV hr.ev.x3 1 _ rfl
  have e2:=zaV hr.ev.x3 2 _ rfl
  have e3:=zaV hr.ev.x3 3 _ rfl
  have ez:=(Array.getElem?_eq_some_iff.1 hr.ev.x3).1
  clear hb hc hr hBd
  rcases hi with ⟨rfl,rfl⟩|⟨rfl,rfl⟩|⟨rfl,rfl⟩|⟨rfl,rfl⟩|⟨rfl,rfl⟩
  ·go_wp2_with (go_at_call 94;refine (Ct.ev1 HC.out c1.out).mono ?_;rintro en w1 ⟨rfl,hb1⟩)
   exact ⟨⟨stp HB.out hb1,Or.inr (Or.inl ⟨rfl,rfl⟩)⟩,by decide⟩
  ·go_wp2_with (go_at_call 96;refine (Ct.ev2 HBD.out c2.out).mono ?_;rintro en w1 ⟨rfl,hb1⟩)
   exact ⟨⟨stp HB.out hb1,Or.inr (Or.inr (Or.inl ⟨rfl,rfl⟩))⟩,by decide⟩
  ·go_wp2_with (go_at_call 98;refine (Ct.ev3 HBD.out c2.out).mono ?_;rintro en w1 ⟨rfl,hb1⟩)
   exact ⟨⟨stp HB.out hb1,Or.inr (Or.inr (Or.inr (Or.inl ⟨rfl,rfl⟩)))⟩,by decide⟩
  ·go_wp2_with (go_at_call 100;refine (Ct.ev4 HBD.out c2.out).mono ?_;rintro en w1 ⟨rfl,hb1⟩)
   exact ⟨⟨stp HB.out hb1,Or.inr (Or.inr (Or.inr (Or.inr ⟨rfl,congrArg (Value.int .i64) (by unfold Cs.nxtG;omega)⟩)))⟩,by decide⟩
  ·go_wp2
   go_ret
   exact ⟨rfl,HB.out⟩
theorem Ct.pt5 {b:Nat} (hF:Fb F N) (h:CI F N c vco vln vsm w k) (hb:w.cell? ⟨b,0,none⟩=some (pt c 0)) (hl:k.sm.length<=90000) (ht:k.s.M.clock+1<=tt/\tt<=k.s.M.clock+64):Calls Tryz.prog 108 #[.int .i64 tt,pt b 0] w λe w'=>e = .returned (.tuple #[])/\(∃ vsm',CI F N c vco vln vsm' w' { k with s:=⟨k.s.M.cS tt,k.s.n,k.s.l⟩,sm:=k.sm++k.s.M.smp (tt-k.s.M.clock).toNat }/\Below F.B w w')/\Kp N c w w':=by
 have hbz:=World.block_lt_of_cell? w _ hb
 have hs:=Ct.soundTo hF h hl ht
 have HS:=hid hs
 clear hF h hl ht hs
 go_enter Tryz.func108,Tryz.ntmps108
 go_wp2_with (go_at_call 109;refine HS.out.mono ?_;rintro e w1 ⟨rfl,h1,h2⟩)
 go_end0
 exact ⟨rfl,h1,h2⟩
def Cs.stg (q:Cs) (M':Mach):Cs:={ q with s:=⟨M',q.s.n,q.s.l⟩ }
theorem Ct.event (hF:Fb F N) (h:CI F N c vco vln vsm w k) (hR:RnB F N c e R w) (h1:k.ln.length<=90000) (h2:k.sm.length<=80000) (h3:k.s.l.length<=1000000) (he:k.s.M.clock<e) (hE:e<=200000) :
 Calls Tryz.prog 33 #[pt R.r 0] w λen w'=>en = .returned (.tuple #[])/\(∃ vco' vln' vsm',CI F N c vco' vln' vsm' w' (k.event e))/\Below F.B w w'/\RnB F N c e R w'/\k.now.s.M.fit/\k.s.M.clock<(k.event e).s.M.clock/\(k.event e).s.M.clock<=e:=by
 have r0:=hR.rc 0 _ rfl
 have rz:=hR.z
 obtain ⟨q,hq⟩:∃ q,q=k.now:=⟨_,rfl⟩
 have hnow:=Lk.nowK hF h (by omega) (by omega) h3
 rw [<- hq] at hnow
 have HNW:=hid hnow
 have HQ:=hid hq
 have HR:=hid hR
 have HF:=hid hF
 have HSM:Hid (q.sm.length<=80001):=hid (by
  rw [hq]
  show (k.sm++(k.s.M.pressed k.co).sample).length<=80001
  have:=zd8 (k.s.M.pressed k.co)
  rw [List.length_append];omega)
 have hck:q.s.M.clock=k.s.M.clock:=by rw [hq];exact za9 k
 have HCK:=hid hck
 have HE:=hid he
 have HE2:=hid hE
 clear hF h hR h1 h2 h3 he hE hnow hq hck
 go_enter Tryz.func33,Tryz.ntmps33
 go_upto_region 1 with (go_at_call 35;refine HNW.out.mono ?_;rintro en w1 ⟨rfl,⟨u1,u2,u3,hc1,hb1⟩,hk1⟩;have HC1:=hid hc1;have HB1:=hid hb1;have hr1:=HR.out.kp hk1;have HR1:=hid hr1;clear hb1 hk1)
 have hfit:q.s.M.fit:=by obtain ⟨tv,hBd⟩:=hc1.i.bd;exact hBd.fit
 have hnx:q.s.M.clock<q.nxtG e/\q.nxtG e<=e/\q.nxtG e<=q.s.M.clock+64:=by
  rw [HQ.out] at hfit ⊢
  exact zqZ (by rw [za9];exact HE.out) HE2.out hfit.b hfit.tc.1
 obtain ⟨tt,hto⟩:∃ tt,tt=q.nxtG e:=⟨_,rfl⟩
 have hN:=Ct.next HF.out hc1 hr1
 rw [<- hto] at hN hnx
 have HN:=hid hN
 have HT:Hid (q.s.M.clock<=tt/\tt<=q.s.M.clock+64):=hid (by omega)
 have HNX:=hid hnx
 have HTO:=hid hto
 have HFI:=hid hfit
 clear r0 rz hc1 hr1 hnx hto hN hfit HNW HR
 go_upto_region 2 with (go_at_call 58;refine HN.out.mono ?_;rintro en w2 ⟨rfl,hb2⟩;have HC2:=hid (HC1.out.keep HF.out hb2);have HB2:=hid (HB1.out.trans (hb2.mono (HC1.out.i.big)));have hr2:=HR1.out.kp (Kp.of hb2);have HR2:=hid hr2;clear hb2)
 have r3:=hr2.rc 3 _ rfl
 have rz:=hr2.z
 clear hr2 HN HC1 HR1 HB1
 go_wp2
 clear r3 rz
 go_loopw [17] (λi wr=>Below F.B w wr/\RnB F N c e R wr/\((i = .int .i64 0/\CI F N c u1 u2 u3 wr q) \/ (i = .int .i64 1/\CI F N c u1 u2 u3 wr (q.stg (q.s.M.cA tt))) \/ (i = .int .i64 2/\CI F N c u1 u2 u3 wr (q.stg ((q.s.M.cA tt).cB tt))) \/ (i = .int .i64 3/\CI F N c u1 u2 u3 wr (q.stg (((q.s.M.cA tt).cB tt).cT tt))) \/ (i = .int .i64 4/\CI F N c u1 u2 u3 wr (q.stg ((((q.s.M.cA tt).cB tt).cT tt).cE tt))) \/ (i = .int .i64 5 /\ ∃ u4,CI F N c u1 u2 u4 wr { q with s:=⟨((((q.s.M.cA tt).cB tt).cT tt).cE tt).cS tt,q.s.n,q.s.l⟩,sm:=q.sm++q.s.M.smp (tt-q.s.M.clock).toNat }))) (λi _=>5-(intOf i).toNat)
 case atStart=>exact ⟨HB2.out,HR2.out,Or.inl ⟨rfl,HC2.out⟩⟩
 case round =>
  obtain ⟨hb,hr,hi⟩:=hrel
  have HB:=hid hb
  have HRR:=hid hr
  have c4:=hid (zaV hr.pb.x1 0 _ rfl)
  have c5:=hid (zaV hr.pb.x2 0 _ rfl)
  have e0:=zaV hr.pb.x3 0 _ rfl
  have e1:=zaV hr.pb.x3 1 _ rfl
  have e2:=zaV hr.pb.x3 2 _ rfl
  have e3:=zaV hr.pb.x3 3 _ rfl
  have e4:=zaV hr.pb.x3 4 _ rfl
  have ez:=(Array.getElem?_eq_some_iff.1 hr.pb.x3).1
  have r0:=hr.rc 0 _ rfl
  have rz:=hr.z
  clear hb hr HB2 HR2 HC2
  rcases hi with ⟨rfl,hc⟩|⟨rfl,hc⟩|⟨rfl,hc⟩|⟨rfl,hc⟩|⟨rfl,hc⟩|⟨rfl,u4,hc⟩
  ·have HC:=hid hc
   clear hc
   go_wp2_with (go_at_call 102;refine (Ct.up (f:=Mach.cA) HF.out HC.out HT.out (λtk hB ht=>Ct.pt1 hB c5.out ht)).mono ?_;rintro en w3 ⟨rfl,hc',hb',hk'⟩)
   exact ⟨⟨HB.out.trans hb',HRR.out.kp hk',Or.inr (Or.inl ⟨rfl,hc'⟩)⟩,by decide⟩
  ·have HC:=hid hc
   clear hc
   go_wp2_with (go_at_call 104;refine (Ct.up (f:=Mach.cB) HF.out HC.out HT.out (λtk hB ht=>Ct.pt2 hB c5.out ht)).mono ?_;rintro en w3 ⟨rfl,hc',hb',hk'⟩)
   exact ⟨⟨HB.out.trans hb',HRR.out.kp hk',Or.inr (Or.inr (Or.inl ⟨rfl,hc'⟩))⟩,by decide⟩
  ·have HC:=hid hc
   clear hc
   go_wp2_with (go_at_call 105;refine (Ct.up (f:=Mach.cT) HF.out HC.out HT.out (λtk hB ht=>Ct.pt3 hB c5.out ht)).mono ?_;rintro en w3 ⟨rfl,hc',hb',hk'⟩)
   exact ⟨⟨HB.out.trans hb',HRR.out.kp hk',Or.inr (Or.inr (Or.inr (Or.inl ⟨rfl,hc'⟩)))⟩,by decide⟩
  ·have HC:=hid hc
   clear hc
   go_wp2_with (go_at_call 107;refine (Ct.up (f:=Mach.cE) HF.out HC.out HT.out (λtk hB ht=>Ct.pt4 hB c5.out ht)).mono ?_;rintro en w3 ⟨rfl,hc',hb',hk'⟩)
   exact ⟨⟨HB.out.trans hb',HRR.out.kp hk',Or.inr (Or.inr (Or.inr (Or.inr (Or.inl ⟨rfl,hc'⟩))))⟩,by decide⟩
  ·have HC:=hid hc
   clear hc
   have h5:=Ct.pt5 (k:=q.stg ((((q.s.M.cA tt).cB tt).cT tt).cE tt)) (tt:=tt) HF.out HC.out c4.out (Nat.le_trans HSM.out (by decide)) (by have:=HNX.out;show q.s.M.clock+1<=tt/\tt<=q.s.M.clock+64;omega)
   have H5:=hid h5
   clear h5
   go_wp2_with (go_at_call 108;refine H5.out.mono ?_;rintro en w3 ⟨rfl,⟨u4,hc',hb'⟩,hk'⟩)
   exact ⟨⟨HB.out.trans hb',HRR.out.kp hk',Or.inr (Or.inr (Or.inr (Or.inr (Or.inr ⟨rfl,u4,hc'⟩))))⟩,by decide⟩
  ·have k0:=hc.cb.bx.at 0 _ rfl
   have kz:=hc.cb.z
   obtain ⟨tv,hBd⟩:=hc.i.bd
   have mz:=hBd.bx.z
   have mf:=hBd.bx.f 72
   have m72:=hBd.at 72 _ rfl
   have HC:=hid hc
   have HBD:=hid hBd
   clear hc hBd e0 e1 e2 e3 e4 ez
   go_wp2
   go_end0
   have hf:=zsq (M:=((((q.s.M.cA tt).cB tt).cT tt).cE tt).cS tt) (tt:=tt) HBD.out.fit HT.out.1 (by have:=HNX.out.2.1;have:=HE2.out;omega)
   obtain ⟨g1,g2,g3⟩:=HC.out.mach (M':=(((((q.s.M.cA tt).cB tt).cT tt).cE tt).cS tt).cC tt) HF.out (HBD.out.put (tk':=⟨q.s.n,q.s.l,tv⟩) 72 (.int .i64 tt) (by omega) rfl ⟨rfl,rfl,rfl,rfl,rfl⟩ hf) (Bt.set HBD.out.nd (Bt.refl F wr) 72 _)
   have hev:k.event e=q.latT tt:=by unfold Cs.event;rw [<- HQ.out,<- HTO.out]
   rw [zkg] at g1
   have g4:(k.event e).s.M.clock=tt:=by rw [hev];rfl
   refine ⟨rfl,⟨u1,u2,u4,?_⟩,HB.out.trans g2,HRR.out.kp g3,by rw [<- HQ.out];exact HFI.out,by rw [g4,<- HCK.out];exact HNX.out.1,by rw [g4];exact HNX.out.2.1⟩
   rw [hev]
   exact g1
end
end Go.Proofs.YtbennamieealbaaGreatDoor
