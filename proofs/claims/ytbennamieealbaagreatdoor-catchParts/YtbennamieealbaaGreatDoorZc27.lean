/-
  Parts of a proof, joined.
-/
import Derived.Test.YtbennamieealbaaGreatDoorZc07
import Derived.Test.YtbennamieealbaaGreatDoorZc26
import Derived.Test.YtbennamieealbaaGreatDoorZc18
set_option linter.unusedVariables false
set_option maxRecDepth 100000
set_option maxHeartbeats 6400000
namespace Go.Proofs.YtbennamieealbaaGreatDoor
open Go.ChangeShapes Go.WideShapes Go.ChangeAt Go.RowKit
section
variable {F : Fx} {N c : Nat} {vco vln vsm : Value} {w w1 : World} {s0 s s' : Bst} {l0 : List Inp}
structure XP (F : Fx) (N c : Nat) (vln vsm : Value) (w : World) (s0 s : Bst) (vco : Value) (l : List Inp) (Y : World) : Prop where
 km:KM F N c w s0 s Y
 cb:CB F N c vco vln vsm Y
 co:InpAt F.B Y vco l
theorem XP.kept {Y Y':World} (hF:Fb F N) (h:XP F N c vln vsm w s0 s vco l0 Y) (hb:Below Y.heap.size Y Y'):XP F N c vln vsm w s0 s vco l0 Y' :=
 ⟨h.km.trans (NM.refl hF h.km.i hb).km,h.cb.kept hb,h.co.kept (hb.mono h.km.i.big)⟩
structure XQ (F : Fx) (N c : Nat) (vln vsm : Value) (w : World) (s0 s : Bst) (vco : Value) (l : List Inp) (b : Nat) (x : Inp) (Y : World) : Prop extends XP F N c vln vsm w s0 s vco l Y where
 bx:Bx Y b [.int .i64 x.c,.int .i64 x.p,.int .u8 x.d]
theorem XQ.kept' {Y Y':World} {b:Nat} {x:Inp} (hF:Fb F N) (h:XQ F N c vln vsm w s0 s vco l0 b x Y) (hb:Below Y.heap.size Y Y'):XQ F N c vln vsm w s0 s vco l0 b x Y':=⟨h.toXP.kept hF hb,h.bx.kept hb⟩
theorem XQ.q0 {M:Mach} {n:Int} {l:List Wt} {Y:World} {b:Nat} {x:Inp} (h:XQ F N c vln vsm w s0 ⟨M,n,l⟩ vco l0 b x Y) (hp:x.p=0):Y.cell? ⟨c,0,none⟩=some (pt F.g 0)/\Y.cell? ⟨b,1,none⟩=some (.int .i64 0)/\Y.cell? ⟨b,2,none⟩=some (.int .u8 x.d)/\Y.rangeAt F.g 35 [.int .u8 M.p0.d,.bool M.p0.l,.int .u8 M.p0.s]:=by
 obtain ⟨v,hB⟩:=h.km.i.bd
 exact ⟨h.cb.bx.at 0 _ rfl,by rw [<- hp];exact h.bx.at 1 _ rfl,h.bx.at 2 _ rfl,hB.pad0⟩
theorem XQ.q1 {M:Mach} {n:Int} {l:List Wt} {Y:World} {b:Nat} {x:Inp} (h:XQ F N c vln vsm w s0 ⟨M,n,l⟩ vco l0 b x Y) (hp:x.p=1):Y.cell? ⟨c,0,none⟩=some (pt F.g 0)/\Y.cell? ⟨b,1,none⟩=some (.int .i64 1)/\Y.cell? ⟨b,2,none⟩=some (.int .u8 x.d)/\Y.rangeAt F.g 38 [.int .u8 M.p1.d,.bool M.p1.l,.int .u8 M.p1.s]:=by
 obtain ⟨v,hB⟩:=h.km.i.bd
 exact ⟨h.cb.bx.at 0 _ rfl,by rw [<- hp];exact h.bx.at 1 _ rfl,h.bx.at 2 _ rfl,hB.pad1⟩
def left (c:Nat) (W:World):Nat:=match W.cell? ⟨c,1,none⟩ with|some (.slice _ n _)=>n|_=>0
theorem ziy {W:World} {a:Option Addr} {n k:Nat} (h:W.cell? ⟨c,1,none⟩=some (.slice a n k)):left c W=n:=by unfold left;rw [h]
theorem InpAt.len {B:Nat} {v:Value} {l:List Inp} (h:InpAt B w v l):∃ a k,v = .slice a l.length k:=by
 rcases h with ⟨rfl,a,k,e⟩|⟨g,o,k,e,_⟩
 ·exact ⟨a,k,e⟩
 ·exact ⟨_,k,e⟩
theorem InpAt.tail {B g o cap:Nat} {x:Inp} {tl:List Inp} (h:InpAt B w (.slice (some ⟨g,o,none⟩) (x::tl).length cap) (x::tl)):InpAt B w (.slice (if cap=1 then some ⟨g,o,none⟩ else some ⟨g,o+3,none⟩) tl.length (cap-1)) tl:=by
 rcases h with ⟨e,_⟩|⟨g',o',cap',e,h2,h3,h4,h5⟩
 ·cases e
 ·cases e
  by_cases ht:tl=[]
  ·subst ht
   exact Or.inl ⟨rfl,_,_,rfl⟩
  ·have hl:0<tl.length:=by
    cases tl with
    | nil=>exact absurd rfl ht
    | cons=>simp
   have h2':tl.length+1<=cap:=h2
   rw [if_neg (by omega)]
   refine Or.inr ⟨g,o+3,cap-1,rfl,by omega,h3,h4,λj y hj=>?_⟩
   have:=h5 (j+1) y hj
   rw [show o+3+3*j=o+3*(j+1) by omega]
   exact this
theorem Lk.press {M:Mach} {n:Int} {l:List Wt} (hF:Fb F N) (hI:BI F N w ⟨M,n,l⟩) (hc:CB F N c vco vln vsm w) (hco:InpAt F.B w vco l0) (hok:∀ x∈l0,x.ok):Calls Tryz.prog 59 #[pt c 0] w λe w'=>e = .returned (.tuple #[]) /\ ∃ vco',XP F N c vln vsm w ⟨M,n,l⟩ ⟨M.pressed l0,n,l⟩ vco' (M.coming l0) w':=by
 have HF:=hid hF
 have H0:Hid (XP F N c vln vsm w ⟨M,n,l⟩ ⟨M,n,l⟩ vco l0 w):=⟨(NM.refl hF hI (st0 w)).km,hc,hco⟩
 obtain ⟨s0,hs0⟩:∃ s0:Bst,s0=⟨M,n,l⟩:=⟨_,rfl⟩
 have HOK0:=hid hok
 clear hF hI hc hco hok
 go_enter Tryz.func59,Tryz.ntmps59
 go_wp2
 go_loopw [] (λwr=>∃ (M1:Mach) (l1:List Inp) (v1:Value),XP F N c vln vsm w ⟨M,n,l⟩ ⟨M1,n,l⟩ v1 l1 wr/\M1.pressed l1=M.pressed l0/\M1.coming l1=M.coming l0 /\ ∀ x∈l1,x.ok) (λwr=>left c wr)
 case atStart=>exact ⟨M,l0,vco,H0.out,rfl,rfl,HOK0.out⟩
 case round =>
  clear H0
  obtain ⟨M1,l1,v1,hX,hp,hcm,hok⟩:=hrel
  have HX0:=hid hX
  have HPE:=hid hp
  have HCE:=hid hcm
  have HOKS:=hid hok
  obtain ⟨vB,hB⟩:=hX.km.i.bd
  have k0:=hX.cb.bx.at 0 _ rfl
  have k1:=hX.cb.bx.at 1 v1 rfl
  have kz:=hX.cb.z
  have kf:=hX.cb.bx.f 1
  have m72:=hB.at 72 (.int .i64 M1.clock) rfl
  have mz:=hB.bx.z
  have hco:=hX.co
  clear hX hp hcm hok hB
  cases l1 with
  | nil =>
   obtain ⟨a1,q1,e1⟩:=hco.len
   clear hco
   subst e1
   go_wp2
   go_quiet (fail)
   go_wp2
   go_end0
   exact ⟨rfl,_,by have h:=HX0.out.kept HF.out (Bl.drewN (st0 wr) nq);rw [<- HPE.out,<- HCE.out];exact h⟩
  | cons x tl =>
   rcases hco with ⟨e,_⟩|⟨g,o,cap,rfl,hcap,hgB,hgz,hcs⟩
   ·cases e
   ·obtain ⟨y0,y1,y2⟩:=hcs 0 x rfl
    have x0:wr.cell? ⟨g,o,none⟩=some (.int .i64 x.c):=y0
    have x1:wr.cell? ⟨g,o+1,none⟩=some (.int .i64 x.p):=y1
    have x2:wr.cell? ⟨g,o+2,none⟩=some (.int .u8 x.d):=y2
    clear y0 y1 y2
    have HCS:=hid hcs
    have HGB:=hid hgB
    have HCAP:=hid hcap
    have hlen:((x::tl).length:Int)=(tl.length:Int)+1:=by simp
    have hlen0:(0:Int)<(tl.length:Int)+1:=by omega
    clear hcs hgB
    by_cases hle:x.c<=M1.clock
    ·have hx:=HOKS.out x (List.mem_cons_self ..)
     have HOK:=hid hx
     clear hx
     have HLE:=hid hle
     go_wp2
     go_quiet (fail)
     go_upto_region 1 with fail
     refine Pl.cutW (XP F N c vln vsm w ⟨M,n,l⟩ ⟨M1,n,l⟩ (.slice (some ⟨g,o,none⟩) (x::tl).length cap) (x::tl)) (HX0.out.kept HF.out (Bl.drewN (st0 wr) nq)) ?_
     intro Y hY
     have HLF:Hid (left c wr=tl.length+1):=hid (ziy k1)
     clear x0 x1 x2 k0 k1 kz kf m72 mz hgz hle HX0
     have HY0:=hid hY
     have k1:=hY.cb.bx.at 1 (.slice (some ⟨g,o,none⟩) (tl.length+1) cap) rfl
     have k0:=hY.cb.bx.at 0 _ rfl
     have kz:=hY.cb.z
     rcases hY.co with ⟨e,_⟩|⟨g',o',cap',e,hcap',hgB,hgz,hcs⟩
     ·cases e
     ·cases e
      obtain ⟨y0,y1,y2⟩:=hcs 0 x rfl
      have x0:Y.cell? ⟨g,o,none⟩=some (.int .i64 x.c):=y0
      have x1:Y.cell? ⟨g,o+1,none⟩=some (.int .i64 x.p):=y1
      have x2:Y.cell? ⟨g,o+2,none⟩=some (.int .u8 x.d):=y2
      clear y0 y1 y2 hY
      go_upto_region 2 with fail
      refine Pl.cutW (XQ F N c vln vsm w ⟨M,n,l⟩ ⟨M1,n,l⟩ (.slice (some ⟨g,o,none⟩) (x::tl).length cap) (x::tl) Y.heap.size x) ⟨HY0.out.kept HF.out (stA (st0 Y) _),Bx.new Y [.int .i64 x.c,.int .i64 x.p,.int .u8 x.d] _ rfl⟩ ?_
      intro U hU
      have HX:=hid (hU.kept' HF.out (st0 U).drew)
      clear k0 k1 kz x0 x1 x2 hgB hgz hcs hcap' HY0
      rcases HOK.out.p with hp|hp
      ·have HP:=hid hp
       have hS:=(hU.kept' HF.out (st0 U).drew).q0 hp
       clear hU hp
       refine zaN (S:=λw'=>w'.cell? ⟨c,0,none⟩=some (pt F.g 0)/\w'.cell? ⟨Y.heap.size,1,none⟩=some (.int .i64 0)/\w'.cell? ⟨Y.heap.size,2,none⟩=some (.int .u8 x.d)/\w'.rangeAt F.g 35 [.int .u8 M1.p0.d,.bool M1.p0.l,.int .u8 M1.p0.s]) (st:=22) (by kernel_rfl) ?_
       refine tqG 0 ⟨some 32,_,_,_,_,none⟩ (λ_=>hS) ?_
       simp only [Act.put,xA,xB,xC]
       refine tqG 1 ⟨some 33,_,_,_,_,none⟩ (λ_=>hS) ?_
       simp only [Act.put,xA,xB,xC]
       refine tqG 2 ⟨some 34,_,_,_,_,none⟩ (λ_=>hS) ?_
       simp only [Act.put,xA,xB,xC]
       refine tqG 4 ⟨some 36,_,_,_,_,none⟩ (λ_=>hS) ?_
       simp only [Act.put,xA,xB,xC]
       refine tqG 6 ⟨some 38,_,_,_,_,none⟩ (λ_=>hS) ?_
       simp only [Act.put,xA,xB,xC]
       refine tqG 7 ⟨some 39,_,_,_,_,none⟩ (λ_=>hS) ?_
       simp only [Act.put,xA,xB,xC]
       refine tqG 8 ⟨some 40,_,_,_,_,none⟩ (λ_=>hS) ?_
       simp only [Act.put,xA,xB,xC]
       refine tqG 10 ⟨some 42,_,_,_,_,none⟩ (λ_=>hS) ?_
       simp only [Act.put,xA,xB,xC]
       refine tqG 16 ⟨some 48,_,_,_,_,none⟩ (λ_=>hS) ?_
       simp only [Act.put,xA,xB,xC]
       refine zac (i:=3) (oi:=⟨some 35,_,_,_,_,none⟩) (v:=pt F.g 0) rfl (by kernel_rfl) (by kernel_rfl) (by kernel_rfl) (by kernel_rfl) (by decide) (by kernel_rfl) (λ_ _ _ h=>h) (Or.inl ⟨by rfl,?_⟩) hS ?_
       ·intro w' hSw
        have hcc:=hSw.1
        have hcz:=World.block_lt_of_cell? w' _ hcc
        go_simp
        try (with_reducible rfl)
       simp only [Act.put,xA,xB,xC]
       refine zac (i:=5) (oi:=⟨some 37,_,_,_,_,none⟩) (v:=.int .i64 0) rfl (by kernel_rfl) (by kernel_rfl) (by kernel_rfl) (by kernel_rfl) (by decide) (by kernel_rfl) (λ_ _ _ h=>h) (Or.inl ⟨by rfl,?_⟩) hS ?_
       ·intro w' hSw
        have hcc:=hSw.2.1
        have hcz:=World.block_lt_of_cell? w' _ hcc
        go_simp
        try (with_reducible rfl)
       simp only [Act.put,xA,xB,xC]
       refine zac (i:=9) (oi:=⟨some 41,_,_,_,_,none⟩) (v:=pt F.g 0) rfl (by kernel_rfl) (by kernel_rfl) (by kernel_rfl) (by kernel_rfl) (by decide) (by kernel_rfl) (λ_ _ _ h=>h) (Or.inl ⟨by rfl,?_⟩) hS ?_
       ·intro w' hSw
        have hcc:=hSw.1
        have hcz:=World.block_lt_of_cell? w' _ hcc
        go_simp
        try (with_reducible rfl)
       simp only [Act.put,xA,xB,xC]
       refine zac (i:=11) (oi:=⟨some 43,_,_,_,_,none⟩) (v:=.int .i64 0) rfl (by kernel_rfl) (by kernel_rfl) (by kernel_rfl) (by kernel_rfl) (by decide) (by kernel_rfl) (λ_ _ _ h=>h) (Or.inl ⟨by rfl,?_⟩) hS ?_
       ·intro w' hSw
        have hcc:=hSw.2.1
        have hcz:=World.block_lt_of_cell? w' _ hcc
        go_simp
        try (with_reducible rfl)
       simp only [Act.put,xA,xB,xC]
       refine zac (i:=17) (oi:=⟨some 49,_,_,_,_,none⟩) (v:=.int .u8 x.d) rfl (by kernel_rfl) (by kernel_rfl) (by kernel_rfl) (by kernel_rfl) (by decide) (by kernel_rfl) (λ_ _ _ h=>h) (Or.inl ⟨by rfl,?_⟩) hS ?_
       ·intro w' hSw
        have hcc:=hSw.2.2.1
        have hcz:=World.block_lt_of_cell? w' _ hcc
        go_simp
        try (with_reducible rfl)
       simp only [Act.put,xA,xB,xC]
       refine tqG 12 ⟨some 44,_,_,_,_,none⟩ (λ_=>hS) ?_
       simp only [Act.put,xA,xB,xC]
       refine tqG 13 ⟨some 45,_,_,_,_,none⟩ (λ_=>hS) ?_
       simp only [Act.put,xA,xB,xC]
       refine tqG 14 ⟨some 46,_,_,_,_,none⟩ (λ_=>hS) ?_
       simp only [Act.put,xA,xB,xC]
       refine tqG 19 ⟨some 51,_,_,_,_,none⟩ (λ_=>hS) ?_
       simp only [Act.put,xA,xB,xC]
       refine tqG 20 ⟨some 52,_,_,_,_,none⟩ (λ_=>hS) ?_
       simp only [Act.put,xA,xB,xC]
       refine zac (i:=15) (oi:=⟨some 47,_,_,_,_,none⟩) (v:=.agg ([.int .u8 M1.p0.d,.bool M1.p0.l,.int .u8 M1.p0.s]).toArray) rfl (by kernel_rfl) (by kernel_rfl) (by kernel_rfl) (by kernel_rfl) (by decide) (by kernel_rfl) (λ_ _ _ h=>h) (Or.inl ⟨by rfl,λw' hSw=>zaf 28 _ rfl F.g 35 rfl ([.int .u8 M1.p0.d,.bool M1.p0.l,.int .u8 M1.p0.s]) _ hSw.2.2.2 Tryz.underlying28 rfl zcJ⟩) hS ?_
       simp only [Act.put,xA,xB,xC]
       refine zam (i:=18) (o:=⟨some 50,_,_,_,_,none⟩) (by kernel_rfl) rfl (λK hK=>?_)
       go_simp
       go_at_call 110
       refine (zhx _ _ _ _ _).mono ?_
       rintro e w2 ⟨rfl,hb2⟩
       have HX1:=hid (HX.out.kept' HF.out hb2)
       clear hb2
       try go_wp2_with fail
       refine hK.out _ _ (λ_=>HX1.out.q0 HP.out) ?_
       clear hK K
       try simp only [Act.put,xA,xB,xC]
       clear hS
       have hS:=HX1.out.q0 HP.out
       refine tqG 21 ⟨some 53,_,_,_,_,none⟩ (λ_=>hS) ?_
       simp only [Act.put,xA,xB,xC]
       obtain ⟨v2,hB2⟩:=HX1.out.km.i.bd
       have HB2:=hid hB2
       clear hB2
       refine zam (i:=22) (o:=⟨none,_,_,_,_,none⟩) (by kernel_rfl) rfl (λK hK=>?_)
       refine zao rfl 28 _ _ rfl F.g 35 _ rfl rfl (Bx.there HB2.out.bx 35 3 (by rw [Fx.len];omega)) zcJ (zmA (M1.p0.press x.d)) ?_
       refine hK.out _ _ (λh=>by simp at h) ?_
       clear hK K
       refine zaM (by kernel_rfl) ?_ _
       have hpe:M1.press x={ M1 with p0:=M1.p0.press x.d }:=if_pos HP.out
       refine Pl.cutE (XP F N c vln vsm w ⟨M,n,l⟩ ⟨M1.press x,n,l⟩ (.slice (some ⟨g,o,none⟩) (x::tl).length cap) (x::tl)) ?_ ?_
       ·have hx:NM F N w2 ⟨M1,n,l⟩ ⟨M1.press x,n,l⟩ (w2.setCells F.g 35 [.int .u8 x.d,.bool M1.p0.l,.int .u8 (sel M1.p0.l x.d M1.p0.s)]):=NM.of (s':=⟨M1.press x,n,l⟩) HF.out HX1.out.km.i HX1.out.km.i.n (v:=v2) (by rw [hpe];exact HB2.out.puts (M':={ M1 with p0:=M1.p0.press x.d }) (tk':=⟨n,l,v2⟩) 35 [.int .u8 x.d,.bool M1.p0.l,.int .u8 (sel M1.p0.l x.d M1.p0.s)] (by simp) rfl ⟨rfl,rfl,rfl,rfl,rfl⟩ (hpe ▸ zhO HB2.out.fit HOK.out)) (Bt.sets HB2.out.nd _ 35 _ (Bt.refl F w2))
        exact ⟨HX1.out.km.trans hx.km,hx.cb HX1.out.cb,HX1.out.co.kept hx.m.below⟩
       clear hpe
       intro V hV
       have k1:=hV.cb.bx.at 1 (.slice (some ⟨g,o,none⟩) (tl.length+1) cap) rfl
       have kz:=hV.cb.z
       have kf:=hV.cb.bx.f 1
       have HV:=hid hV
       have hcp:tl.length+1<=cap:=HCAP.out
       clear hV HX HX1 HB2 hS
       go_wp2
       refine ⟨⟨M1.press x,tl,_,⟨HV.out.km.set HF.out (HV.out.cb.big HV.out.km.i HF.out) HV.out.cb 1 _,HV.out.cb.put1 _,?_⟩,by rw [<- HPE.out,zbG HLE.out],by rw [<- HCE.out,zbW HLE.out],λy hy=>HOKS.out y (List.mem_cons_of_mem _ hy)⟩,?_⟩
       ·exact ((HV.out.co.tail).kept (Below.setCell (Below.refl _ _) (HV.out.cb.big HV.out.km.i HF.out) _))
       ·rw [HLF.out,ziy (Bx.at (HV.out.cb.put1 _).bx 1 _ rfl)]
        omega
      ·have HP:=hid hp
       have hS:=(hU.kept' HF.out (st0 U).drew).q1 hp
       clear hU hp
       refine zaN (S:=λw'=>w'.cell? ⟨c,0,none⟩=some (pt F.g 0)/\w'.cell? ⟨Y.heap.size,1,none⟩=some (.int .i64 1)/\w'.cell? ⟨Y.heap.size,2,none⟩=some (.int .u8 x.d)/\w'.rangeAt F.g 38 [.int .u8 M1.p1.d,.bool M1.p1.l,.int .u8 M1.p1.s]) (st:=22) (by kernel_rfl) ?_
       refine tqG 0 ⟨some 32,_,_,_,_,none⟩ (λ_=>hS) ?_
       simp only [Act.put,xA,xB,xC]
       refine tqG 1 ⟨some 33,_,_,_,_,none⟩ (λ_=>hS) ?_
       simp only [Act.put,xA,xB,xC]
       refine tqG 2 ⟨some 34,_,_,_,_,none⟩ (λ_=>hS) ?_
       simp only [Act.put,xA,xB,xC]
       refine tqG 4 ⟨some 36,_,_,_,_,none⟩ (λ_=>hS) ?_
       simp only [Act.put,xA,xB,xC]
       refine tqG 6 ⟨some 38,_,_,_,_,none⟩ (λ_=>hS) ?_
       simp only [Act.put,xA,xB,xC]
       refine tqG 7 ⟨some 39,_,_,_,_,none⟩ (λ_=>hS) ?_
       simp only [Act.put,xA,xB,xC]
       refine tqG 8 ⟨some 40,_,_,_,_,none⟩ (λ_=>hS) ?_
       simp only [Act.put,xA,xB,xC]
       refine tqG 10 ⟨some 42,_,_,_,_,none⟩ (λ_=>hS) ?_
       simp only [Act.put,xA,xB,xC]
       refine tqG 16 ⟨some 48,_,_,_,_,none⟩ (λ_=>hS) ?_
       simp only [Act.put,xA,xB,xC]
       refine zac (i:=3) (oi:=⟨some 35,_,_,_,_,none⟩) (v:=pt F.g 0) rfl (by kernel_rfl) (by kernel_rfl) (by kernel_rfl) (by kernel_rfl) (by decide) (by kernel_rfl) (λ_ _ _ h=>h) (Or.inl ⟨by rfl,?_⟩) hS ?_
       ·intro w' hSw
        have hcc:=hSw.1
        have hcz:=World.block_lt_of_cell? w' _ hcc
        go_simp
        try (with_reducible rfl)
       simp only [Act.put,xA,xB,xC]
       refine zac (i:=5) (oi:=⟨some 37,_,_,_,_,none⟩) (v:=.int .i64 1) rfl (by kernel_rfl) (by kernel_rfl) (by kernel_rfl) (by kernel_rfl) (by decide) (by kernel_rfl) (λ_ _ _ h=>h) (Or.inl ⟨by rfl,?_⟩) hS ?_
       ·intro w' hSw
        have hcc:=hSw.2.1
        have hcz:=World.block_lt_of_cell? w' _ hcc
        go_simp
        try (with_reducible rfl)
       simp only [Act.put,xA,xB,xC]
       refine zac (i:=9) (oi:=⟨some 41,_,_,_,_,none⟩) (v:=pt F.g 0) rfl (by kernel_rfl) (by kernel_rfl) (by kernel_rfl) (by kernel_rfl) (by decide) (by kernel_rfl) (λ_ _ _ h=>h) (Or.inl ⟨by rfl,?_⟩) hS ?_
       ·intro w' hSw
        have hcc:=hSw.1
        have hcz:=World.block_lt_of_cell? w' _ hcc
        go_simp
        try (with_reducible rfl)
       simp only [Act.put,xA,xB,xC]
       refine zac (i:=11) (oi:=⟨some 43,_,_,_,_,none⟩) (v:=.int .i64 1) rfl (by kernel_rfl) (by kernel_rfl) (by kernel_rfl) (by kernel_rfl) (by decide) (by kernel_rfl) (λ_ _ _ h=>h) (Or.inl ⟨by rfl,?_⟩) hS ?_
       ·intro w' hSw
        have hcc:=hSw.2.1
        have hcz:=World.block_lt_of_cell? w' _ hcc
        go_simp
        try (with_reducible rfl)
       simp only [Act.put,xA,xB,xC]
       refine zac (i:=17) (oi:=⟨some 49,_,_,_,_,none⟩) (v:=.int .u8 x.d) rfl (by kernel_rfl) (by kernel_rfl) (by kernel_rfl) (by kernel_rfl) (by decide) (by kernel_rfl) (λ_ _ _ h=>h) (Or.inl ⟨by rfl,?_⟩) hS ?_
       ·intro w' hSw
        have hcc:=hSw.2.2.1
        have hcz:=World.block_lt_of_cell? w' _ hcc
        go_simp
        try (with_reducible rfl)
       simp only [Act.put,xA,xB,xC]
       refine tqG 12 ⟨some 44,_,_,_,_,none⟩ (λ_=>hS) ?_
       simp only [Act.put,xA,xB,xC]
       refine tqG 13 ⟨some 45,_,_,_,_,none⟩ (λ_=>hS) ?_
       simp only [Act.put,xA,xB,xC]
       refine tqG 14 ⟨some 46,_,_,_,_,none⟩ (λ_=>hS) ?_
       simp only [Act.put,xA,xB,xC]
       refine tqG 19 ⟨some 51,_,_,_,_,none⟩ (λ_=>hS) ?_
       simp only [Act.put,xA,xB,xC]
       refine tqG 20 ⟨some 52,_,_,_,_,none⟩ (λ_=>hS) ?_
       simp only [Act.put,xA,xB,xC]
       refine zac (i:=15) (oi:=⟨some 47,_,_,_,_,none⟩) (v:=.agg ([.int .u8 M1.p1.d,.bool M1.p1.l,.int .u8 M1.p1.s]).toArray) rfl (by kernel_rfl) (by kernel_rfl) (by kernel_rfl) (by kernel_rfl) (by decide) (by kernel_rfl) (λ_ _ _ h=>h) (Or.inl ⟨by rfl,λw' hSw=>zaf 28 _ rfl F.g 38 rfl ([.int .u8 M1.p1.d,.bool M1.p1.l,.int .u8 M1.p1.s]) _ hSw.2.2.2 Tryz.underlying28 rfl zcJ⟩) hS ?_
       simp only [Act.put,xA,xB,xC]
       refine zam (i:=18) (o:=⟨some 50,_,_,_,_,none⟩) (by kernel_rfl) rfl (λK hK=>?_)
       go_simp
       go_at_call 110
       refine (zhx _ _ _ _ _).mono ?_
       rintro e w2 ⟨rfl,hb2⟩
       have HX1:=hid (HX.out.kept' HF.out hb2)
       clear hb2
       try go_wp2_with fail
       refine hK.out _ _ (λ_=>HX1.out.q1 HP.out) ?_
       clear hK K
       try simp only [Act.put,xA,xB,xC]
       clear hS
       have hS:=HX1.out.q1 HP.out
       refine tqG 21 ⟨some 53,_,_,_,_,none⟩ (λ_=>hS) ?_
       simp only [Act.put,xA,xB,xC]
       obtain ⟨v2,hB2⟩:=HX1.out.km.i.bd
       have HB2:=hid hB2
       clear hB2
       refine zam (i:=22) (o:=⟨none,_,_,_,_,none⟩) (by kernel_rfl) rfl (λK hK=>?_)
       refine zao rfl 28 _ _ rfl F.g 38 _ rfl rfl (Bx.there HB2.out.bx 38 3 (by rw [Fx.len];omega)) zcJ (zmA (M1.p1.press x.d)) ?_
       refine hK.out _ _ (λh=>by simp at h) ?_
       clear hK K
       refine zaM (by kernel_rfl) ?_ _
       have hpe:M1.press x={ M1 with p1:=M1.p1.press x.d }:=if_neg (by rw [HP.out];decide)
       refine Pl.cutE (XP F N c vln vsm w ⟨M,n,l⟩ ⟨M1.press x,n,l⟩ (.slice (some ⟨g,o,none⟩) (x::tl).length cap) (x::tl)) ?_ ?_
       ·have hx:NM F N w2 ⟨M1,n,l⟩ ⟨M1.press x,n,l⟩ (w2.setCells F.g 38 [.int .u8 x.d,.bool M1.p1.l,.int .u8 (sel M1.p1.l x.d M1.p1.s)]):=NM.of (s':=⟨M1.press x,n,l⟩) HF.out HX1.out.km.i HX1.out.km.i.n (v:=v2) (by rw [hpe];exact HB2.out.puts (M':={ M1 with p1:=M1.p1.press x.d }) (tk':=⟨n,l,v2⟩) 38 [.int .u8 x.d,.bool M1.p1.l,.int .u8 (sel M1.p1.l x.d M1.p1.s)] (by simp) rfl ⟨rfl,rfl,rfl,rfl,rfl⟩ (hpe ▸ zhO HB2.out.fit HOK.out)) (Bt.sets HB2.out.nd _ 38 _ (Bt.refl F w2))
        exact ⟨HX1.out.km.trans hx.km,hx.cb HX1.out.cb,HX1.out.co.kept hx.m.below⟩
       clear hpe
       intro V hV
       have k1:=hV.cb.bx.at 1 (.slice (some ⟨g,o,none⟩) (tl.length+1) cap) rfl
       have kz:=hV.cb.z
       have kf:=hV.cb.bx.f 1
       have HV:=hid hV
       have hcp:tl.length+1<=cap:=HCAP.out
       clear hV HX HX1 HB2 hS
       go_wp2
       refine ⟨⟨M1.press x,tl,_,⟨HV.out.km.set HF.out (HV.out.cb.big HV.out.km.i HF.out) HV.out.cb 1 _,HV.out.cb.put1 _,?_⟩,by rw [<- HPE.out,zbG HLE.out],by rw [<- HCE.out,zbW HLE.out],λy hy=>HOKS.out y (List.mem_cons_of_mem _ hy)⟩,?_⟩
       ·exact ((HV.out.co.tail).kept (Below.setCell (Below.refl _ _) (HV.out.cb.big HV.out.km.i HF.out) _))
       ·rw [HLF.out,ziy (Bx.at (HV.out.cb.put1 _).bx 1 _ rfl)]
        omega
    ·have HLE:=hid hle
     have hle':M1.clock<x.c:=by omega
     clear hle
     go_wp2
     go_quiet (fail)
     go_wp2
     go_end0
     exact ⟨rfl,_,by have h:=HX0.out.kept HF.out (Bl.drewN (st0 wr) nq);rw [<- HPE.out,<- HCE.out,zdq (Int.not_le.2 HLE.out),zd2 (Int.not_le.2 HLE.out)];exact h⟩
end
theorem zd3 (s:Sd) (N:Nat) (w:World) (h:s.fit) (hn:N<=20000) :
 Calls Tryz.prog 65 #[(.agg #[.int .u16 s.a.p,.int .u16 s.a.c,.int .u8 s.a.l,.bool s.a.h,.int .u16 s.a.n,.int .u16 s.b.p,.int .u16 s.b.c,.int .u8 s.b.l,.bool s.b.h,.int .u16 s.b.n,.int .u16 s.c.p,.int .u16 s.c.c,.int .u8 s.c.l,.bool s.c.h,.int .u16 s.c.n,.int .i64 s.w]),.int .i64 N] w λe w'=>∃ v,e = .returned (.tuple #[v,(.agg #[.int .u16 (s.ticks N).a.p,.int .u16 (s.ticks N).a.c,.int .u8 (s.ticks N).a.l,.bool (s.ticks N).a.h,.int .u16 (s.ticks N).a.n,.int .u16 (s.ticks N).b.p,.int .u16 (s.ticks N).b.c,.int .u8 (s.ticks N).b.l,.bool (s.ticks N).b.h,.int .u16 (s.ticks N).b.n,.int .u16 (s.ticks N).c.p,.int .u16 (s.ticks N).c.c,.int .u8 (s.ticks N).c.l,.bool (s.ticks N).c.h,.int .u16 (s.ticks N).c.n,.int .i64 (s.ticks N).w]),.int .i64 0])/\sliceAt w' v (sms s N)/\(∀ k,v.ownBlock=some k->w.heap.size+2<=k)/\Below w.heap.size w w':=by
 have hm:=zlr N
 rw [decide_eq_true (show 0<=(N:Int)/\(N:Int)<=20000 by omega)] at hm
 have i0:=v3_0
 have i1:=v3_1
 have i2:=v3_2
 go_enter Tryz.func65,Tryz.ntmps65
 go_wp2_with (first
  | (go_at_call 27;refine (zc7 s _ h.w).mono ?_;rintro e w0 ⟨rfl,hb0⟩)
  | (go_at_call 116;refine (hm _).mono ?_;rintro e w9 ⟨rfl,rfl⟩))
 have HS0:Hid (SmW w s [] (.slice none 0 0) w0):=(⟨stA (stA (st0 w) _) _,(Bx.new w (scs s) _ rfl).over _,Bx.new _ zs _ (by simp),⟨rfl,Or.inl ⟨rfl,rfl⟩⟩⟩:SmW w s [] (.slice none 0 0) _).kept hb0
 clear hb0 hm
 go_loopw [1,4] (λn v wr=>∃ k:Nat,k<=N/\n = .int .i64 (N-k:Int)/\SmW w (s.ticks k) (sms s k) v wr) (λn _ _=>(intOf n).toNat)
 case atStart=>exact ⟨0,Nat.zero_le _,by simp,HS0.out⟩
 case round =>
  clear HS0
  obtain ⟨k,hk,rfl,hA⟩:=hrel
  have HF:=hid (Sd.ticks_fit h k)
  have HL:=hid (zgd s k)
  by_cases h8:k<N
  ·have h8':(0:Int)<(N:Int)-k:=by omega
   have hwt:=wt_bd HF.out
   obtain ⟨m,hm0⟩:∃ m:Int,m=min ((N:Int)-k) (wt (s.ticks k)):=⟨_,rfl⟩
   have hmm:0<=m/\m<=20000:=by omega
   have hm1:1<=m:=by omega
   have hm2:m<=wt (s.ticks k):=by omega
   have hm3:m<=(N:Int)-k:=by omega
   generalize hx:s.ticks k=x at *
   generalize hL:sms s k=L at *
   have HX:=hid hx
   have HLL:=hid hL
   clear hx hL
   have HA:=hid hA
   obtain ⟨c0,c1,c2,c3,c4,c5,c6,c7,c8,c9,c10,c11,c12,c13,c14,c15⟩:=hA.all
   have tz:=hA.b.z
   have tf:=hA.b.f
   have l3:=load3 hA.b
   clear hA
   by_cases hz:x.w=0
   ·-- a sample
    have hwt0:wt x=16:=by unfold wt;rw [if_pos hz]
    have hone:one x=[sm x]:=by unfold one;rw [if_pos hz]
    have HO:=hid hone
    have HW0:=hid hwt0
    rw [hwt0] at hm0
    have HM0:=hid hm0
    have hsm:=(zpy x).symm
    have HLB:Hid (L.length<=50000):=by have:=HL.out;exact Nat.le_trans this (by omega)
    have HSM:=hid hsm
    have HZ:=hid hz
    clear hone hwt0 hsm hm0
    rw [hz] at c15
    clear hz
    go_wp2_with (first
     | (go_at_call 117;refine (ze6 x _ HF.out.k).mono ?_;rintro e w3 ⟨rfl,hb3⟩;have HA3:=hid (HA.out.kept hb3);have own3:=hid (HA3.out.over (.cells #[.int .u8 (smI x)] 5)))
     | (at_builtin;refine app1 (by rfl) _ _ (by rfl) (w.heap.size+2) _ L (by rfl) own3.out.o w3.heap.size 1 (sm x) (smI x) (by rfl) (Pl.new _ _ _ _ rfl) HSM.out HLB.out own3.out.r.z ?_;intro v' w' hown' hb';have HA4:=hid (own3.out.app hb' hown');obtain ⟨c0,c1,c2,c3,c4,c5,c6,c7,c8,c9,c10,c11,c12,c13,c14,c15⟩:=HA4.out.all;have tz:=HA4.out.b.z;have tf:=HA4.out.b.f;have l3':=load3 (HA4.out.wait 16).b))
    rw [<- HM0.out]
    go_loopw [39] (λi wr=>(i = .int .i64 0/\SmW w ⟨x.a,x.b,x.c,wt x⟩ (L++one x) v' wr) \/ (i = .int .i64 1/\SmW w ⟨x.a.later m,x.b,x.c,wt x⟩ (L++one x) v' wr) \/ (i = .int .i64 2/\SmW w ⟨x.a.later m,x.b.later m,x.c,wt x⟩ (L++one x) v' wr) \/ (i = .int .i64 3/\SmW w ⟨x.a.later m,x.b.later m,x.c.later m,wt x⟩ (L++one x) v' wr)) (λi _=>3-(intOf i).toNat)
    case atStart=>exact Or.inl ⟨rfl,by rw [HO.out,HW0.out];exact HA4.out.wait 16⟩
    case round =>
     clear HA HA3 HA4 own3 l3 l3' c0 c1 c2 c3 c4 c5 c6 c7 c8 c9 c10 c11 c12 c13 c14 c15 tz tf hown' hb' hb3
     rcases hrel with ⟨rfl,hS⟩|⟨rfl,hS⟩|⟨rfl,hS⟩|⟨rfl,hS⟩
     ·obtain ⟨c0,c1,c2,c3,c4,c5,c6,c7,c8,c9,c10,c11,c12,c13,c14,c15⟩:=hS.all
      have tz:=hS.b.z
      have tf:=hS.b.f
      have HS:=hid hS
      clear hS
      go_wp2_with (go_at_call 118;refine (latV x.a m _ HF.out.a hmm).mono ?_;rintro e w5 ⟨rfl,hb5⟩;have HS5:=hid ((HS.out.over _).kept hb5);obtain ⟨c0,c1,c2,c3,c4,c5,c6,c7,c8,c9,c10,c11,c12,c13,c14,c15⟩:=HS5.out.all;have tz:=HS5.out.b.z;have tf:=HS5.out.b.f)
      exact ⟨Or.inr (Or.inl ⟨rfl,HS5.out.v0 _⟩),by decide⟩
     ·obtain ⟨c0,c1,c2,c3,c4,c5,c6,c7,c8,c9,c10,c11,c12,c13,c14,c15⟩:=hS.all
      have tz:=hS.b.z
      have tf:=hS.b.f
      have HS:=hid hS
      clear hS
      go_wp2_with (go_at_call 118;refine (latV x.b m _ HF.out.b hmm).mono ?_;rintro e w5 ⟨rfl,hb5⟩;have HS5:=hid ((HS.out.over _).kept hb5);obtain ⟨c0,c1,c2,c3,c4,c5,c6,c7,c8,c9,c10,c11,c12,c13,c14,c15⟩:=HS5.out.all;have tz:=HS5.out.b.z;have tf:=HS5.out.b.f)
      exact ⟨Or.inr (Or.inr (Or.inl ⟨rfl,HS5.out.v1 _⟩)),by decide⟩
     ·obtain ⟨c0,c1,c2,c3,c4,c5,c6,c7,c8,c9,c10,c11,c12,c13,c14,c15⟩:=hS.all
      have tz:=hS.b.z
      have tf:=hS.b.f
      have HS:=hid hS
      clear hS
      go_wp2_with (go_at_call 118;refine (latV x.c m _ HF.out.c hmm).mono ?_;rintro e w5 ⟨rfl,hb5⟩;have HS5:=hid ((HS.out.over _).kept hb5);obtain ⟨c0,c1,c2,c3,c4,c5,c6,c7,c8,c9,c10,c11,c12,c13,c14,c15⟩:=HS5.out.all;have tz:=HS5.out.b.z;have tf:=HS5.out.b.f)
      exact ⟨Or.inr (Or.inr (Or.inr ⟨rfl,HS5.out.v2 _⟩)),by decide⟩
     ·have c15:=hS.w15
      have tz:=hS.b.z
      have tf:=hS.b.f
      have HS:=hid hS
      clear hS
      go_wp2
      go_roundw
      case rel =>
       obtain ⟨e1,e2⟩:=zgk (mN:=m.toNat) HX.out HLL.out HF.out (by omega) hm1 hm2
       refine ⟨k+m.toNat,by omega,?_,?_⟩
       ·congr 1;omega
       ·rw [e1,e2];exact HS.out.wait _
      case measure=>simp [intOf];omega
   ·-- none
    have hz':(x.w == 0)=false:=by simpa using hz
    have hwt0:wt x=x.w:=by unfold wt;rw [if_neg hz]
    have hone:one x=[]:=by unfold one;rw [if_neg hz]
    have HO:=hid hone
    have HW0:=hid hwt0
    rw [hwt0] at hm0
    have HM0:=hid hm0
    clear hz hone hwt0 hm0
    go_wp2
    rw [<- HM0.out]
    go_loopw [39] (λi wr=>(i = .int .i64 0/\SmW w ⟨x.a,x.b,x.c,wt x⟩ (L++one x) u4 wr) \/ (i = .int .i64 1/\SmW w ⟨x.a.later m,x.b,x.c,wt x⟩ (L++one x) u4 wr) \/ (i = .int .i64 2/\SmW w ⟨x.a.later m,x.b.later m,x.c,wt x⟩ (L++one x) u4 wr) \/ (i = .int .i64 3/\SmW w ⟨x.a.later m,x.b.later m,x.c.later m,wt x⟩ (L++one x) u4 wr)) (λi _=>3-(intOf i).toNat)
    case atStart=>exact Or.inl ⟨rfl,by rw [HO.out,HW0.out,List.append_nil];exact HA.out⟩
    case round =>
     clear HA l3 c0 c1 c2 c3 c4 c5 c6 c7 c8 c9 c10 c11 c12 c13 c14 c15 tz tf
     rcases hrel with ⟨rfl,hS⟩|⟨rfl,hS⟩|⟨rfl,hS⟩|⟨rfl,hS⟩
     ·obtain ⟨c0,c1,c2,c3,c4,c5,c6,c7,c8,c9,c10,c11,c12,c13,c14,c15⟩:=hS.all
      have tz:=hS.b.z
      have tf:=hS.b.f
      have HS:=hid hS
      clear hS
      go_wp2_with (go_at_call 118;refine (latV x.a m _ HF.out.a hmm).mono ?_;rintro e w5 ⟨rfl,hb5⟩;have HS5:=hid ((HS.out.over _).kept hb5);obtain ⟨c0,c1,c2,c3,c4,c5,c6,c7,c8,c9,c10,c11,c12,c13,c14,c15⟩:=HS5.out.all;have tz:=HS5.out.b.z;have tf:=HS5.out.b.f)
      exact ⟨Or.inr (Or.inl ⟨rfl,HS5.out.v0 _⟩),by decide⟩
     ·obtain ⟨c0,c1,c2,c3,c4,c5,c6,c7,c8,c9,c10,c11,c12,c13,c14,c15⟩:=hS.all
      have tz:=hS.b.z
      have tf:=hS.b.f
      have HS:=hid hS
      clear hS
      go_wp2_with (go_at_call 118;refine (latV x.b m _ HF.out.b hmm).mono ?_;rintro e w5 ⟨rfl,hb5⟩;have HS5:=hid ((HS.out.over _).kept hb5);obtain ⟨c0,c1,c2,c3,c4,c5,c6,c7,c8,c9,c10,c11,c12,c13,c14,c15⟩:=HS5.out.all;have tz:=HS5.out.b.z;have tf:=HS5.out.b.f)
      exact ⟨Or.inr (Or.inr (Or.inl ⟨rfl,HS5.out.v1 _⟩)),by decide⟩
     ·obtain ⟨c0,c1,c2,c3,c4,c5,c6,c7,c8,c9,c10,c11,c12,c13,c14,c15⟩:=hS.all
      have tz:=hS.b.z
      have tf:=hS.b.f
      have HS:=hid hS
      clear hS
      go_wp2_with (go_at_call 118;refine (latV x.c m _ HF.out.c hmm).mono ?_;rintro e w5 ⟨rfl,hb5⟩;have HS5:=hid ((HS.out.over _).kept hb5);obtain ⟨c0,c1,c2,c3,c4,c5,c6,c7,c8,c9,c10,c11,c12,c13,c14,c15⟩:=HS5.out.all;have tz:=HS5.out.b.z;have tf:=HS5.out.b.f)
      exact ⟨Or.inr (Or.inr (Or.inr ⟨rfl,HS5.out.v2 _⟩)),by decide⟩
     ·have c15:=hS.w15
      have tz:=hS.b.z
      have tf:=hS.b.f
      have HS:=hid hS
      clear hS
      go_wp2
      go_roundw
      case rel =>
       obtain ⟨e1,e2⟩:=zgk (mN:=m.toNat) HX.out HLL.out HF.out (by omega) hm1 hm2
       refine ⟨k+m.toNat,by omega,?_,?_⟩
       ·congr 1;omega
       ·rw [e1,e2];exact HS.out.wait _
      case measure=>simp [intOf];omega
  ·-- all clocks are over
   obtain rfl:k=N:=by omega
   have HA:=hid hA
   have tz:=hA.r.z
   have tf:=hA.r.f
   obtain ⟨r0,r1,r2,r3,r4,r5,r6,r7,r8,r9,r10,r11,r12,r13,r14,r15⟩:=hA.allr
   obtain ⟨c0,c1,c2,c3,c4,c5,c6,c7,c8,c9,c10,c11,c12,c13,c14,c15⟩:=hA.all
   have HK0:=hid hA.all
   have HK1:=hid hA.drew.all
   have HK2:=hid (hA.alls (s.ticks k))
   have HK3:=hid (hA.alls' (s.ticks k))
   have HK4:=hid (hA.drew.alls (s.ticks k))
   clear hA
   go_wp2
   go_region_held3 (λw'=>w'.cell? ⟨w.heap.size,0,none⟩=some (.int .u16 (s.ticks k).a.p)/\w'.cell? ⟨w.heap.size,1,none⟩=some (.int .u16 (s.ticks k).a.c)/\w'.cell? ⟨w.heap.size,2,none⟩=some (.int .u8 (s.ticks k).a.l)/\w'.cell? ⟨w.heap.size,3,none⟩=some (.bool (s.ticks k).a.h)/\w'.cell? ⟨w.heap.size,4,none⟩=some (.int .u16 (s.ticks k).a.n)/\w'.cell? ⟨w.heap.size,5,none⟩=some (.int .u16 (s.ticks k).b.p)/\w'.cell? ⟨w.heap.size,6,none⟩=some (.int .u16 (s.ticks k).b.c)/\w'.cell? ⟨w.heap.size,7,none⟩=some (.int .u8 (s.ticks k).b.l)/\w'.cell? ⟨w.heap.size,8,none⟩=some (.bool (s.ticks k).b.h)/\w'.cell? ⟨w.heap.size,9,none⟩=some (.int .u16 (s.ticks k).b.n)/\w'.cell? ⟨w.heap.size,10,none⟩=some (.int .u16 (s.ticks k).c.p)/\w'.cell? ⟨w.heap.size,11,none⟩=some (.int .u16 (s.ticks k).c.c)/\w'.cell? ⟨w.heap.size,12,none⟩=some (.int .u8 (s.ticks k).c.l)/\w'.cell? ⟨w.heap.size,13,none⟩=some (.bool (s.ticks k).c.h)/\w'.cell? ⟨w.heap.size,14,none⟩=some (.int .u16 (s.ticks k).c.n)/\w'.cell? ⟨w.heap.size,15,none⟩=some (.int .i64 (s.ticks k).w))
    (first
      | with_reducible exact HK0.out
      | with_reducible exact HK1.out
      | (rw [nest16];with_reducible exact HK2.out)
      | (rw [nest16];with_reducible exact HK3.out)
      | (rw [nest16];with_reducible exact HK4.out))
    (fail)
   go_wp2
   rw [nest16]
   refine Pl.cutB (λW=>Below w.heap.size w W/\Bx W (w.heap.size+1) (scs (s.ticks k))/\sliceAt W u4 (sms s k) /\ ∀ g,u4.ownBlock=some g->w.heap.size+2<=g) ⟨?_,?_,?_,λg hg=>(HA.out.o.lt g hg).1⟩ ?_
   ·exact (Bl.puts HA.out.low (by omega) _).drew
   ·exact (HA.out.r.puts 0 (scs (s.ticks k)) (by simp)).drew
   ·exact (zbD (zcf (by omega) _ 0 HA.out.o)).drew
   rintro W ⟨hlow,hbox,hsl,hown⟩
   have hl:=loadS hbox
   refine bodyPost_ret (v:=.tuple #[u4,(.agg #[.int .u16 (s.ticks k).a.p,.int .u16 (s.ticks k).a.c,.int .u8 (s.ticks k).a.l,.bool (s.ticks k).a.h,.int .u16 (s.ticks k).a.n,.int .u16 (s.ticks k).b.p,.int .u16 (s.ticks k).b.c,.int .u8 (s.ticks k).b.l,.bool (s.ticks k).b.h,.int .u16 (s.ticks k).b.n,.int .u16 (s.ticks k).c.p,.int .u16 (s.ticks k).c.c,.int .u8 (s.ticks k).c.l,.bool (s.ticks k).c.h,.int .u16 (s.ticks k).c.n,.int .i64 (s.ticks k).w]),.int .i64 0]) ?_ rfl ⟨_,rfl,hsl,hown,hlow⟩
   simp only [results,Tryz.results65]
   simp
   show (Result.andThen (Sem.run Tryz.prog (loadVar 36 ⟨w.heap.size+1,0,none⟩) W) _)=_
   rw [hl]
   rfl
end Go.Proofs.YtbennamieealbaaGreatDoor
