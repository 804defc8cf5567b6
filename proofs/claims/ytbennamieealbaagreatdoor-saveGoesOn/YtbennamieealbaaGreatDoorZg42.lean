/-
  Parts of a proof, joined.
-/
import Derived.Test.YtbennamieealbaaGreatDoorZg41
set_option linter.unusedVariables false
set_option maxRecDepth 100000
set_option maxHeartbeats 6400000
namespace Go.Proofs.YtbennamieealbaaGreatDoor
open Go.ChangeShapes Go.WideShapes Go.ChangeAt Go.RowKit
theorem zkx {Y:World} {v:Value} {l:List UInt8} {B:Nat} (h:sliceAt Y v l) (hn:∀ k,v.ownBlock=some k->k≠B) (o:Nat) (vs:List Value):sliceAt (Y.setCells B o vs) v l:=by
 rcases h with h|⟨g,o',cap,h1,h2,h3,h4⟩
 ·exact Or.inl h
 ·have hg:g≠B:=hn g (by rw [h1];rfl)
  exact Or.inr ⟨g,o',cap,h1,h2,by rw [zaT];exact h3,λj c hj=>(World.cell?_of_block (w:=Y) (zag hg _ _ _)).trans (h4 j c hj)⟩
theorem zh3 {Y:World} {g o cap:Nat} {x:UInt8} {tl:List UInt8} (h:sliceAt Y (.slice (some ⟨g,o,none⟩) (x::tl).length cap) (x::tl)):sliceAt Y (.slice (if cap=1 then some ⟨g,o,none⟩ else some ⟨g,o+1,none⟩) tl.length (cap-1)) tl:=by
 rcases h with ⟨_,_,_,e⟩|⟨g',o',cap',e,h2,h3,h4⟩
 ·cases e
 ·cases e
  by_cases ht:tl=[]
  ·subst ht
   exact Or.inl ⟨_,_,rfl,rfl⟩
  ·have hl:0<tl.length:=by
    cases tl with
    | nil=>exact absurd rfl ht
    | cons=>simp
   have h2':tl.length+1<=cap:=h2
   rw [if_neg (by omega)]
   refine Or.inr ⟨g,o+1,cap-1,rfl,by omega,h3,λj y hj=>?_⟩
   have:=h4 (j+1) y hj
   rw [show o+1+j=o+(j+1) by omega]
   exact this
theorem appG {ops:Array Oper} {rest:List Oper} {o:Oper} {a:Act} {w:World} {Q:Exit->Act->World->Prop} (hgd:o.guard=none) (s x:Operand) (ho:o.op = .call { callee:=.builtin .append,args:=#[s,x],argTypes:=#[26,26] })
 (B:Nat) (v:Value) (xs:List UInt8) (hs:a.eval s=v) (hown:w.ownsRow B 5 1 v xs.length (bcs xs)) (xv:Value) (hx:a.eval x=xv) (l:List UInt8) (hl:sliceAt w xv l) (hb:xs.length+l.length<=100000) (hB:B<=w.heap.size)
 (h:∀ v' w',w'.ownsRow B 5 1 v' (xs++l).length (bcs (xs++l))->w.grownBy w' v.ownBlock->wpList Tryz.prog ops Q rest (a.put o.dst v') w'):wpList Tryz.prog ops Q (o::rest) a w:=by
 obtain ⟨i0,hi0,hz0,hz1,hz2⟩:=info_parts za4
 by_cases hl0:l=[]
 ·subst hl0
  have hxv:∃ ad c,xv = .slice ad 0 c:=by
   rcases hl with ⟨ad,c,h1,_⟩|⟨g,o',c,h1,_⟩
   ·exact ⟨ad,c,h1⟩
   ·exact ⟨_,c,h1⟩
  obtain ⟨ad,c,rfl⟩:=hxv
  refine wpList_plain hgd λK hK=>?_
  have hrun:=appendNo B i0 hi0 o.type v xs.length (bcs xs) hown ad c
  unfold Oper.wp
  simp [execOp,ho,resolve,invoke,builtin,hs,hx,hrun,Result.andThen]
  exact hK _ _ (h v w (by simpa using hown) ⟨rfl,rfl,rfl,Nat.le_refl _,λ_ _ _=>rfl⟩)
 ·rcases hl with ⟨ad,c,_,h2⟩|⟨g,o',c,h1,h2,h3,h4⟩
  ·exact absurd h2 hl0
  ·have hlen:0<l.length:=by cases l with|nil=>exact absurd rfl hl0|cons _ _=>simp
   refine wpList_append_lies _ hgd s x _ ho B 5 i0 _ 1 1 Tryz.underlying26 hi0 hz0 hz1 hz2 rfl (by omega) v xs.length (bcs xs) hs hown ⟨g,o',none⟩ l.length c (bcs l) (hx.trans h1) (by simp [bcs]) (λj u hj=>?_) (λu hu=>?_) hlen (by unfold maxLen;omega) (by omega) hB w.heap.size rfl ?_
   ·simp only [bcs,List.getElem?_map,Option.map_eq_some_iff] at hj
    obtain ⟨cc,hc1,hc2⟩:=hj
    rw [<- hc2,show (⟨g,o',none⟩:Addr).add j=⟨g,o'+j,none⟩ by unfold Addr.add;split <;> simp_all]
    exact h4 j cc hc1
   ·simp only [bcs,List.mem_map] at hu
    obtain ⟨cc,_,rfl⟩:=hu
    rfl
   ·intro g' cap w' hown' hgrow _ _
    refine h _ w' ?_ hgrow
    rw [List.length_append,<- zbi];exact hown'
section
variable {F : Fx} {N c : Nat} {vco vln vsm : Value} {w w1 Y Y' : World} {k : Cs} {M : Mach} {tk : Tk} {d B : Nat} {v : Value} {tt : Int}
theorem Bd.ss5 (h:Bd F w M tk):w.rangeAt F.g 45 (sndL M.s)/\w.cell? ⟨F.g,72,none⟩=some (.int .i64 M.clock):=⟨h.sndR,h.at 72 _ rfl⟩
structure SV (F : Fx) (N c : Nat) (vco vln vsm : Value) (k : Cs) (M : Mach) (tk : Tk) (w : World) (Y : World) : Prop where
 ci:CI F N c vco vln vsm Y k
 bd:Bd F Y M tk
 low:Below w.heap.size w Y
theorem SV.kept' (hF:Fb F N) (h:SV F N c vco vln vsm k M tk w Y) (hb:Below Y.heap.size Y Y'):SV F N c vco vln vsm k M tk w Y':=⟨h.ci.keep hF hb,h.bd.kept hb,stp h.low hb⟩
structure SW (F : Fx) (N c : Nat) (vco vln vsm : Value) (k : Cs) (M : Mach) (tk : Tk) (w : World) (d B : Nat) (v : Value) (Y : World) : Prop extends SV F N c vco vln vsm k M tk w Y where
 bx:Bx Y B (sndL (M.s.ticks d))
 bz:w.heap.size<=B
 sl:sliceAt Y v (sms M.s d)
theorem zky {L:List Value} {x:Sd} (h:Bx Y B L) (hl:L.length=16):Bx (Y.setCells B 0 (sndL x)) B (sndL x):=by
 have:=h.puts 0 (sndL x) (by rw [hl];simp [sndL])
 rw [zau _ _ (by rw [hl];simp [sndL])] at this
 exact this
theorem SW.mk1 (hF:Fb F N) (h:SV F N c vco vln vsm k M tk w Y) (hs:sliceAt Y v (sms M.s d)):SW F N c vco vln vsm k M tk w d Y.heap.size v ((Y.alloc (.cells zs.toArray 36)).setCells Y.heap.size 0 (sndL (M.s.ticks d))):=by
 have hb:Below Y.heap.size Y ((Y.alloc (.cells zs.toArray 36)).setCells Y.heap.size 0 (sndL (M.s.ticks d))):=Bl.puts (stA (st0 Y) _) (Nat.le_refl _) _
 exact ⟨h.kept' hF hb,zky (Bx.new Y zs 36 (b:=Y.heap.size) rfl) (by simp [zs]),h.low.size,hs.kept hb⟩
theorem SW.mk2 (hF:Fb F N) (h:SV F N c vco vln vsm k M tk w w) (hb:Below (w.drew.alloc (.cells zs.toArray 36)).heap.size (w.drew.alloc (.cells zs.toArray 36)) w1) (hs:sliceAt w1 v (sms M.s d)) (ho:∀ k,v.ownBlock=some k->(w.drew.alloc (.cells zs.toArray 36)).heap.size+2<=k):SW F N c vco vln vsm k M tk w d w.heap.size v (w1.setCells w.heap.size 0 (sndL (M.s.ticks d))):=by
 have h1:Below w.heap.size w w1:=stp (stA (st0 w).drew (.cells zs.toArray 36)) hb
 have h2:Below w.heap.size w (w1.setCells w.heap.size 0 (sndL (M.s.ticks d))):=Bl.puts h1 (Nat.le_refl _) _
 exact ⟨h.kept' hF h2,zky ((Bx.new w.drew zs 36 (b:=w.heap.size) rfl).kept hb) (by simp [zs]),Nat.le_refl _,zkx hs (λj e=>by have:=ho j e;simp at this;omega) _ _⟩
structure SX (F : Fx) (N c : Nat) (vco vln vsm : Value) (k : Cs) (w : World) (x : Sd) (B : Nat) (Y : World) : Prop where
 ci:CI F N c vco vln vsm Y k
 bx:Bx Y B (sndL x)
 low:Below F.B w Y
 kp:Kp N c w Y
theorem SW.grown {v':Value} {xs:List UInt8} (hF:Fb F N) (hw:c<w.heap.size/\(∀ j,vsm.ownBlock=some j->j<w.heap.size)/\F.B<=w.heap.size) (h:SW F N c vco vln vsm k M tk w d B v Y) (ho:Y'.ownsRow N 5 1 v' xs.length (bcs xs)) (hg:Y.grownBy Y' vsm.ownBlock):SX F N c vco vln v' { k with sm:=xs } w (M.s.ticks d) B (Y'.setCell ⟨c,3,none⟩ v'):=by
 obtain ⟨r1,r2⟩:=h.ci.grow3 hF ho hg
 have hz:=h.bz
 exact ⟨r1,(h.bx.same hg.size (hg.block B h.bx.z (λe=>by have:=hw.2.1 _ e.symm;omega))).far (by omega) _,(h.low.mono hw.2.2).trans r2,(Kp.of h.low).trans ((Kp.grown (Or.inr rfl) h.ci.sm hg).trans (Kp.set 3 _))⟩
theorem Ct.soundTo (hF:Fb F N) (h:CI F N c vco vln vsm w k) (hl:k.sm.length<=90000) (ht:k.s.M.clock+1<=tt/\tt<=k.s.M.clock+64):Calls Tryz.prog 109 #[pt c 0,.int .i64 tt] w λe w'=>e = .returned (.tuple #[])/\(∃ vsm',CI F N c vco vln vsm' w' { k with s:=⟨k.s.M.cS tt,k.s.n,k.s.l⟩,sm:=k.sm++k.s.M.smp (tt-k.s.M.clock).toNat }/\Below F.B w w')/\Kp N c w w':=by
 obtain ⟨tv,hB⟩:=h.i.bd
 obtain ⟨M,hM⟩:∃ M,M=k.s.M:=⟨_,rfl⟩
 rw [<- hM] at hB ht ⊢
 obtain ⟨d,hd⟩:∃ d:Nat,d=(tt-M.clock).toNat:=⟨_,rfl⟩
 have hdt:tt-M.clock=d:=by omega
 have he:M.cS tt={ M with s:=M.s.ticks d }:=by unfold Mach.cS;rw [<- hd]
 rw [he,<- hd]
 have HD:Hid (1<=d/\d<=64):=hid (by omega)
 have hwr:IntKind.i64.wrap (tt-M.clock)=(d:Int):=by rw [IntKind.wrap_i64];omega
 obtain ⟨tk,htk⟩:∃ tk:Tk,tk=⟨k.s.n,k.s.l,tv⟩:=⟨_,rfl⟩
 rw [<- htk] at hB
 have HSF:Hid M.s.fit:={ hB.fit.s with w:=hB.fit.w }
 have k0:=h.cb.bx.at 0 _ rfl
 have kz:=h.cb.z
 have mz0:=hB.bx.z
 have HW:Hid (c<w.heap.size/\(∀ j,vsm.ownBlock=some j->j<w.heap.size)/\F.B<=w.heap.size):=hid ⟨kz,λj e=>(zaJ h.sm j e).2.1,h.i.big⟩
 have H0:Hid (SV F N c vco vln vsm k M tk w w):=hid ⟨h,hB,st0 w⟩
 have HF:=hid hF
 have HL:=hid hl
 have HM:=hid hM
 have HTK:=hid htk
 clear hF h hl hB hM ht hd hdt he htk
 go_enter Tryz.func109,Tryz.ntmps109
 go_upto_region 1 with fail
 clear k0 kz mz0
 go_cut [0,1,4,5,6] (λu0 u1 u4 u5 u6 Y=>u0=pt c 0/\u1 = .int .i64 tt/\u4=pt F.g 0 /\ ∃ B,u6=pt B 0/\SW F N c vco vln vsm k M tk w d B u5 Y)
 case first =>
  refine wp_region_held_drew (S:=λw'=>w'.rangeAt F.g 45 (sndL M.s)/\w'.cell? ⟨F.g,72,none⟩=some (.int .i64 M.clock)) (by kernel_rfl) (H0.out.bd.drew.ss5) ?_
  intro hS
  refine tqH 0 ⟨some 13,_,_,_,_,none⟩ hS ?_
  simp only [Act.put,xA,xB,xC]
  refine tqH 1 ⟨some 14,_,_,_,_,none⟩ hS ?_
  simp only [Act.put,xA,xB,xC]
  refine tqH 2 ⟨some 15,_,_,_,_,none⟩ hS ?_
  simp only [Act.put,xA,xB,xC]
  refine wpAnyH_take (i:=3) (oi:=⟨some 16,_,_,_,_,none⟩) (v:=.agg (sndL M.s).toArray) rfl (by kernel_rfl) (by kernel_rfl) (by kernel_rfl) (λ_ _ _ h=>h) (Or.inl ⟨by rfl,λw' hSw=>zai 36 _ rfl F.g 45 rfl (sndL M.s) _ hSw.1 Tryz.underlying36 rfl zaj⟩) hS ?_
  simp only [Act.put,xA,xB,xC]
  refine tqH 4 ⟨some 17,_,_,_,_,none⟩ hS ?_
  simp only [Act.put,xA,xB,xC]
  refine tqH 5 ⟨some 18,_,_,_,_,none⟩ hS ?_
  simp only [Act.put,xA,xB,xC]
  refine tqH 6 ⟨some 19,_,_,_,_,none⟩ hS ?_
  simp only [Act.put,xA,xB,xC]
  refine tqH 7 ⟨some 20,_,_,_,_,none⟩ hS ?_
  simp only [Act.put,xA,xB,xC]
  refine wpAnyH_take (i:=8) (oi:=⟨some 21,_,_,_,_,none⟩) (v:=.int .i64 M.clock) rfl (by kernel_rfl) (by kernel_rfl) (by kernel_rfl) (λ_ _ _ h=>h) (Or.inl ⟨by rfl,?_⟩) hS ?_
  ·intro w' hSw
   have hcc:=hSw.2
   have hcz:=World.block_lt_of_cell? w' _ hcc
   go_simp
   try (with_reducible rfl)
  simp only [Act.put,xA,xB,xC]
  refine tqH 9 ⟨some 22,_,_,_,_,none⟩ hS ?_
  simp only [Act.put,xA,xB,xC]
  refine wpAnyH_ready (rs:=[10,15]) (by kernel_rfl) (by simp) ?_
  refine AllReadyH.cons (o:=⟨some 23,_,_,_,_,none⟩) rfl (λK hK=>?_) (AllReadyH.cons (o:=⟨some 6,_,_,_,_,none⟩) rfl (λK hK=>?_) AllReadyH.nil)
  ·go_simp
   go_at_call 65
   refine (zb9 M.s d _ HSF.out (by have:=HD.out;omega)).mono ?_
   rintro e w1 ⟨v1,rfl,hs1,ho1,hb1⟩
   have HS1:=hid hs1
   have HO1:=hid ho1
   have HB1:=hid hb1
   clear hs1 ho1 hb1
   try go_wp2_with fail
   have HG1:=hid (H0.out.kept' HF.out (stp (st0 w).drew HB1.out))
   refine hK.out _ _ (HG1.out.bd.ss5) (λ_=>?_)
   clear hK K hS
   have hS:=HG1.out.bd.ss5
   try simp only [Act.put,xA,xB,xC]
   refine tqH 11 ⟨some 12,_,_,_,_,none⟩ hS ?_
   simp only [Act.put,xA,xB,xC]
   refine tqH 12 ⟨some 24,_,_,_,_,none⟩ hS ?_
   simp only [Act.put,xA,xB,xC]
   refine tqH 13 ⟨some 25,_,_,_,_,none⟩ hS ?_
   simp only [Act.put,xA,xB,xC]
   refine tqH 14 ⟨some 26,_,_,_,_,none⟩ hS ?_
   simp only [Act.put,xA,xB,xC]
   refine wpAnyH_ready (rs:=[15]) (by kernel_rfl) (by simp) ?_
   refine AllReadyH.cons (o:=⟨some 6,_,_,_,_,none⟩) rfl (λK hK=>?_) AllReadyH.nil
   go_simp
   have HG2:=hid (HG1.out.kept' HF.out (stA (st0 w1) (.cells zs.toArray 36)))
   refine hK.out _ _ (HG2.out.bd.ss5) (λ_=>?_)
   clear hK K hS
   have hS:=HG2.out.bd.ss5
   try simp only [Act.put,xA,xB,xC]
   refine tqH 16 ⟨some 5,_,_,_,_,none⟩ hS ?_
   simp only [Act.put,xA,xB,xC]
   refine wpAnyH_ready (rs:=[17]) (by kernel_rfl) (by simp) ?_
   refine AllReadyH.cons (o:=⟨none,_,_,_,_,none⟩) rfl (λK hK=>?_) AllReadyH.nil
   refine zam rfl 36 _ _ rfl w1.heap.size 0 (sndL (M.s.ticks d)).toArray rfl rfl ((Bx.new w1 zs 36 (b:=w1.heap.size) rfl).there 0 16 (by simp [zs])) zaj (all16 (M.s.ticks d)) ?_
   have HG3:=hid (SW.mk1 HF.out HG1.out HS1.out)
   refine hK.out _ _ (HG3.out.bd.ss5) (λ_=>?_)
   clear hK K hS
   have hS:=HG3.out.bd.ss5
   refine tqH 18 ⟨some 7,_,_,_,_,none⟩ hS ?_
   simp only [Act.put,xA,xB,xC]
   refine wpAnyH_done (by kernel_rfl) ?_ _
   go_wp2_with fail
   go_meet
   exact ⟨rfl,rfl,rfl,_,rfl,HG3.out⟩
  ·go_simp
   have HG1:=hid (H0.out.kept' HF.out (stA (st0 w).drew (.cells zs.toArray 36)))
   refine hK.out _ _ (HG1.out.bd.ss5) (λ_=>?_)
   clear hK K hS
   have hS:=HG1.out.bd.ss5
   try simp only [Act.put,xA,xB,xC]
   refine wpAnyH_ready (rs:=[10]) (by kernel_rfl) (by simp) ?_
   refine AllReadyH.cons (o:=⟨some 23,_,_,_,_,none⟩) rfl (λK hK=>?_) AllReadyH.nil
   go_simp
   go_at_call 65
   refine (zb9 M.s d _ HSF.out (by have:=HD.out;omega)).mono ?_
   rintro e w1 ⟨v1,rfl,hs1,ho1,hb1⟩
   have HS1:=hid hs1
   have HO1:=hid ho1
   have HB1:=hid hb1
   clear hs1 ho1 hb1
   try go_wp2_with fail
   have HG2:=hid (HG1.out.kept' HF.out HB1.out)
   refine hK.out _ _ (HG2.out.bd.ss5) (λ_=>?_)
   clear hK K hS
   have hS:=HG2.out.bd.ss5
   try simp only [Act.put,xA,xB,xC]
   refine tqH 11 ⟨some 12,_,_,_,_,none⟩ hS ?_
   simp only [Act.put,xA,xB,xC]
   refine tqH 12 ⟨some 24,_,_,_,_,none⟩ hS ?_
   simp only [Act.put,xA,xB,xC]
   refine tqH 13 ⟨some 25,_,_,_,_,none⟩ hS ?_
   simp only [Act.put,xA,xB,xC]
   refine tqH 14 ⟨some 26,_,_,_,_,none⟩ hS ?_
   simp only [Act.put,xA,xB,xC]
   refine tqH 16 ⟨some 5,_,_,_,_,none⟩ hS ?_
   simp only [Act.put,xA,xB,xC]
   refine wpAnyH_ready (rs:=[17]) (by kernel_rfl) (by simp) ?_
   refine AllReadyH.cons (o:=⟨none,_,_,_,_,none⟩) rfl (λK hK=>?_) AllReadyH.nil
   refine zam rfl 36 _ _ rfl w.heap.size 0 (sndL (M.s.ticks d)).toArray rfl rfl (((Bx.new w.drew zs 36 (b:=w.heap.size) rfl).kept HB1.out).there 0 16 (by simp [zs])) zaj (all16 (M.s.ticks d)) ?_
   have HG3:=hid (SW.mk2 HF.out H0.out HB1.out HS1.out HO1.out)
   refine hK.out _ _ (HG3.out.bd.ss5) (λ_=>?_)
   clear hK K hS
   have hS:=HG3.out.bd.ss5
   refine tqH 18 ⟨some 7,_,_,_,_,none⟩ hS ?_
   simp only [Act.put,xA,xB,xC]
   refine wpAnyH_done (by kernel_rfl) ?_ _
   go_wp2_with fail
   go_meet
   exact ⟨rfl,rfl,rfl,_,rfl,HG3.out⟩
 case rest =>
  obtain ⟨rfl,rfl,rfl,B,rfl,hW⟩:=hcut
  have HY:=hid hW
  have hbd:(sms M.s d).length<=64:=by have:=zgd M.s d;have:=HD.out;omega
  have mz:=hW.bd.bx.z
  have kz:=hW.ci.cb.z
  have k3:=hW.ci.cb.bx.at 3 vsm rfl
  have hNs:N<=wc.heap.size:=hW.ci.i.N
  have HN:=hid hNs
  by_cases hw0:M.s.w=0
  ·have m60:wc.cell? ⟨F.g,60,none⟩=some (.int .i64 0):=by rw [<- hw0];exact hW.bd.at 60 (.int .i64 M.s.w) rfl
   obtain ⟨x,tl,hx⟩:∃ x tl,sms M.s d=x::tl:=by
    obtain ⟨j,rfl⟩:∃ j,d=1+j:=⟨d-1,by have:=HD.out;omega⟩
    have e1:sms M.s 1=[sm M.s]:=by
     show []++one M.s=_
     unfold one
     rw [if_pos hw0];rfl
    exact ⟨_,_,by rw [zc8,e1];rfl⟩
   have hsm:M.smp d=tl:=by unfold Mach.smp;rw [if_pos hw0,hx];rfl
   have HSM:=hid hsm
   have hsl:=hW.sl
   rw [hx] at hsl hbd
   rcases hsl with ⟨_,_,_,e⟩|⟨g,o,cap,rfl,g1,g2,g3⟩
   ·cases e
   ·have HTL:=hid (zh3 (Or.inr ⟨g,o,cap,rfl,g1,g2,g3⟩))
    have hlen:((x::tl).length:Int)=(tl.length:Int)+1:=by simp
    have hlen0:(0:Int)<(tl.length:Int)+1:=by omega
    have HBD:Hid (k.sm.length+tl.length<=100000):=hid (by have:=HL.out;simp at hbd;omega)
    have hg1:tl.length+1<=cap:=g1
    clear hW hbd hw0 hx hsm g1 g2 g3 hNs
    rcases (by omega:cap=1 \/ 2<=cap) with rfl|hc2
    ·obtain rfl:tl=[]:=List.eq_nil_of_length_eq_zero (by omega)
     have HSL:Hid (sliceAt wc (.slice (some ⟨g,o,none⟩) 0 0) []):=hid (by have:=HTL.out;rw [if_pos rfl] at this;exact this)
     clear HTL
     go_upto_region 5 with (at_builtin;refine appG (by rfl) _ _ (by rfl) N _ k.sm (by rfl) HY.out.ci.sm _ (by rfl) [] HSL.out HBD.out HN.out ?_;intro v3 W1 hown1 hg1;obtain ⟨a3,n3,c3,e3⟩:=zgU hown1;subst e3;have HO1:=hid hown1;have HG1:=hid hg1;have hcb1:=HY.out.ci.cb.same (hg1.block c HY.out.ci.cb.z (λe=>zbc HY.out.ci.sm HY.out.ci.cb.blk (by decide) e.symm));have q3:=hcb1.bx.at 3 vsm rfl;have qz:=hcb1.z;have qf:=hcb1.bx.f 3;clear hcb1 hown1 hg1)
     refine Pl.cutW (SX F N c vco vln (.slice a3 n3 c3) { k with sm:=k.sm++[] } w (M.s.ticks d) B) (SW.grown HF.out HW.out HY.out HO1.out HG1.out) ?_
     intro Z hZ
     have HZ:=hid hZ
     obtain ⟨tv2,hB2⟩:=hZ.ci.i.bd
     have hB3:Bd F Z M ⟨k.s.n,k.s.l,tv2⟩:=by rw [HM.out];exact hB2
     have HB3:=hid hB3
     have hnm:NM F N Z k.s ⟨{ M with s:=M.s.ticks d },k.s.n,k.s.l⟩ (Z.setCells F.g 45 (sndL (M.s.ticks d))):=NM.of (s':=⟨{ M with s:=M.s.ticks d },k.s.n,k.s.l⟩) HF.out hZ.ci.i hZ.ci.i.n (hB3.puts (M':={ M with s:=M.s.ticks d }) (tk':=⟨k.s.n,k.s.l,tv2⟩) 45 (sndL (M.s.ticks d)) (by simp [sndL]) (F.putSnd M _ _) ⟨rfl,rfl,rfl,rfl,rfl⟩ { hB3.fit with main:=hB3.fit.main,s:=(Sd.ticks_fit HSF.out d).took,w:=(Sd.ticks_fit HSF.out d).w }) (Bt.sets hB3.nd _ 45 _ (Bt.refl F Z))
     have HNM:=hid hnm
     clear hZ hB2 hB3 hnm q3 qz qf HY HO1 HG1 HSL k3 kz mz m60
     go_wp2_with (first
      | (refine wpList_load_mid rfl 36 _ rfl B 0 rfl (sndL (M.s.ticks d)) _ HZ.out.bx.c Tryz.underlying36 rfl zaj ?_)
      | (refine wpList_store_mid rfl 36 _ _ rfl F.g 45 (sndL (M.s.ticks d)).toArray rfl rfl (Bx.there HB3.out.bx 45 16 (by rw [Fx.len];omega)) zaj (all16 (M.s.ticks d)) ?_
         refine Pl.cutL (λV=>NM F N Z k.s ⟨{ M with s:=M.s.ticks d },k.s.n,k.s.l⟩ V) HNM.out ?_
         intro V hV
         have HV:=hid hV
         clear hV))
     go_end0
     rw [HSM.out]
     exact ⟨rfl,⟨⟨_,HZ.out.ci.step HV.out⟩,HZ.out.low.trans HV.out.m.below⟩,HZ.out.kp.trans HV.out.kp⟩
    ·obtain ⟨m,rfl⟩:∃ m,cap=m+2:=⟨cap-2,by omega⟩
     have HSL:Hid (sliceAt wc (.slice (some ⟨g,o+1,none⟩) tl.length (m+1)) tl):=hid (by have:=HTL.out;rw [if_neg (by omega)] at this;exact this)
     clear HTL hc2
     go_upto_region 5 with (at_builtin;refine appG (by rfl) _ _ (by rfl) N _ k.sm (by rfl) HY.out.ci.sm _ (by rfl) tl HSL.out HBD.out HN.out ?_;intro v3 W1 hown1 hg1;obtain ⟨a3,n3,c3,e3⟩:=zgU hown1;subst e3;have HO1:=hid hown1;have HG1:=hid hg1;have hcb1:=HY.out.ci.cb.same (hg1.block c HY.out.ci.cb.z (λe=>zbc HY.out.ci.sm HY.out.ci.cb.blk (by decide) e.symm));have q3:=hcb1.bx.at 3 vsm rfl;have qz:=hcb1.z;have qf:=hcb1.bx.f 3;clear hcb1 hown1 hg1)
     refine Pl.cutW (SX F N c vco vln (.slice a3 n3 c3) { k with sm:=k.sm++tl } w (M.s.ticks d) B) (SW.grown HF.out HW.out HY.out HO1.out HG1.out) ?_
     intro Z hZ
     have HZ:=hid hZ
     obtain ⟨tv2,hB2⟩:=hZ.ci.i.bd
     have hB3:Bd F Z M ⟨k.s.n,k.s.l,tv2⟩:=by rw [HM.out];exact hB2
     have HB3:=hid hB3
     have hnm:NM F N Z k.s ⟨{ M with s:=M.s.ticks d },k.s.n,k.s.l⟩ (Z.setCells F.g 45 (sndL (M.s.ticks d))):=NM.of (s':=⟨{ M with s:=M.s.ticks d },k.s.n,k.s.l⟩) HF.out hZ.ci.i hZ.ci.i.n (hB3.puts (M':={ M with s:=M.s.ticks d }) (tk':=⟨k.s.n,k.s.l,tv2⟩) 45 (sndL (M.s.ticks d)) (by simp [sndL]) (F.putSnd M _ _) ⟨rfl,rfl,rfl,rfl,rfl⟩ { hB3.fit with main:=hB3.fit.main,s:=(Sd.ticks_fit HSF.out d).took,w:=(Sd.ticks_fit HSF.out d).w }) (Bt.sets hB3.nd _ 45 _ (Bt.refl F Z))
     have HNM:=hid hnm
     clear hZ hB2 hB3 hnm q3 qz qf HY HO1 HG1 HSL k3 kz mz m60
     go_wp2_with (first
      | (refine wpList_load_mid rfl 36 _ rfl B 0 rfl (sndL (M.s.ticks d)) _ HZ.out.bx.c Tryz.underlying36 rfl zaj ?_)
      | (refine wpList_store_mid rfl 36 _ _ rfl F.g 45 (sndL (M.s.ticks d)).toArray rfl rfl (Bx.there HB3.out.bx 45 16 (by rw [Fx.len];omega)) zaj (all16 (M.s.ticks d)) ?_
         refine Pl.cutL (λV=>NM F N Z k.s ⟨{ M with s:=M.s.ticks d },k.s.n,k.s.l⟩ V) HNM.out ?_
         intro V hV
         have HV:=hid hV
         clear hV))
     go_end0
     rw [HSM.out]
     exact ⟨rfl,⟨⟨_,HZ.out.ci.step HV.out⟩,HZ.out.low.trans HV.out.m.below⟩,HZ.out.kp.trans HV.out.kp⟩
  ·have hw':(M.s.w == 0)=false:=by simpa using hw0
   have m60:=hW.bd.at 60 (.int .i64 M.s.w) rfl
   have hsm:M.smp d=sms M.s d:=by unfold Mach.smp;rw [if_neg hw0]
   obtain ⟨L,hL⟩:∃ L,L=sms M.s d:=⟨_,rfl⟩
   rw [<- hL] at hsm
   have HSM:=hid hsm
   have HSL:Hid (sliceAt wc u5 L):=hid (by rw [hL];exact hW.sl)
   rw [<- hL] at hbd
   have HBD:Hid (k.sm.length+L.length<=100000):=hid (by have:=HL.out;omega)
   clear hW hbd hw0 hsm hL hNs
   go_upto_region 5 with (at_builtin;refine appG (by rfl) _ _ (by rfl) N _ k.sm (by rfl) HY.out.ci.sm _ (by rfl) L HSL.out HBD.out HN.out ?_;intro v3 W1 hown1 hg1;obtain ⟨a3,n3,c3,e3⟩:=zgU hown1;subst e3;have HO1:=hid hown1;have HG1:=hid hg1;have hcb1:=HY.out.ci.cb.same (hg1.block c HY.out.ci.cb.z (λe=>zbc HY.out.ci.sm HY.out.ci.cb.blk (by decide) e.symm));have q3:=hcb1.bx.at 3 vsm rfl;have qz:=hcb1.z;have qf:=hcb1.bx.f 3;clear hcb1 hown1 hg1)
   refine Pl.cutW (SX F N c vco vln (.slice a3 n3 c3) { k with sm:=k.sm++L } w (M.s.ticks d) B) (SW.grown HF.out HW.out HY.out HO1.out HG1.out) ?_
   intro Z hZ
   have HZ:=hid hZ
   obtain ⟨tv2,hB2⟩:=hZ.ci.i.bd
   have hB3:Bd F Z M ⟨k.s.n,k.s.l,tv2⟩:=by rw [HM.out];exact hB2
   have HB3:=hid hB3
   have hnm:NM F N Z k.s ⟨{ M with s:=M.s.ticks d },k.s.n,k.s.l⟩ (Z.setCells F.g 45 (sndL (M.s.ticks d))):=NM.of (s':=⟨{ M with s:=M.s.ticks d },k.s.n,k.s.l⟩) HF.out hZ.ci.i hZ.ci.i.n (hB3.puts (M':={ M with s:=M.s.ticks d }) (tk':=⟨k.s.n,k.s.l,tv2⟩) 45 (sndL (M.s.ticks d)) (by simp [sndL]) (F.putSnd M _ _) ⟨rfl,rfl,rfl,rfl,rfl⟩ { hB3.fit with main:=hB3.fit.main,s:=(Sd.ticks_fit HSF.out d).took,w:=(Sd.ticks_fit HSF.out d).w }) (Bt.sets hB3.nd _ 45 _ (Bt.refl F Z))
   have HNM:=hid hnm
   clear hZ hB2 hB3 hnm q3 qz qf HY HO1 HG1 HSL k3 kz mz m60
   go_wp2_with (first
    | (refine wpList_load_mid rfl 36 _ rfl B 0 rfl (sndL (M.s.ticks d)) _ HZ.out.bx.c Tryz.underlying36 rfl zaj ?_)
    | (refine wpList_store_mid rfl 36 _ _ rfl F.g 45 (sndL (M.s.ticks d)).toArray rfl rfl (Bx.there HB3.out.bx 45 16 (by rw [Fx.len];omega)) zaj (all16 (M.s.ticks d)) ?_
       refine Pl.cutL (λV=>NM F N Z k.s ⟨{ M with s:=M.s.ticks d },k.s.n,k.s.l⟩ V) HNM.out ?_
       intro V hV
       have HV:=hid hV
       clear hV))
   go_end0
   rw [HSM.out]
   exact ⟨rfl,⟨⟨_,HZ.out.ci.step HV.out⟩,HZ.out.low.trans HV.out.m.below⟩,HZ.out.kp.trans HV.out.kp⟩
end
end Go.Proofs.YtbennamieealbaaGreatDoor
