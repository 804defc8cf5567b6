/-
  Parts of a proof, joined.
-/
import Derived.Test.YtbhpfkjfijdmaaaGreatDoorZy30
import Derived.Test.YtbhpfkjfijdmaaaGreatDoorZy17
import Derived.Deep.AppendLies
namespace Go.Proofs.YtbhpfkjfijdmaaaGreatDoor
open Go.ChangeShapes Go.WideShapes Go.ChangeAt Go.RowKit
set_option linter.unusedVariables false
set_option maxRecDepth 100000
set_option maxHeartbeats 6400000
section
variable {F : Fx} {N c : Nat} {vco vln vsm : Value} {w w1 : World} {s0 s s' : Bst} {l0 : List Inp}
structure XP (F : Fx) (N c : Nat) (vln vsm : Value) (w : World) (s0 s : Bst) (vco : Value) (l : List Inp) (Y : World) : Prop where
 km:KM F N c w s0 s Y
 cb:CB F N c vco vln vsm Y
 co:InpAt F.B Y vco l
theorem XP.kept {Y Y':World} (hF:Fb F N) (h:XP F N c vln vsm w s0 s vco l0 Y) (hb:Below Y.heap.size Y Y'):XP F N c vln vsm w s0 s vco l0 Y' :=
 ⟨h.km.trans (NM.refl hF h.km.i hb).km,h.cb.kept hb,h.co.kept (hb.mono h.km.i.big)⟩
structure XQ (F : Fx) (N c : Nat) (vln vsm : Value) (w : World) (s0 s : Bst) (vco : Value) (l : List Inp) (b : Nat) (x : Inp) (Y : World) : Prop extends XP F N c vln vsm w s0 s vco l Y where
 bx:Bx Y b [.int .i64 x.c,.int .i64 x.p,.int .u8 x.d]
theorem XQ.kept' {Y Y':World} {b:Nat} {x:Inp} (hF:Fb F N) (h:XQ F N c vln vsm w s0 s vco l0 b x Y) (hb:Below Y.heap.size Y Y'):XQ F N c vln vsm w s0 s vco l0 b x Y':=⟨h.toXP.kept hF hb,h.bx.kept hb⟩
theorem XQ.q0 {M:Mach} {n:Int} {l:List Wt} {Y:World} {b:Nat} {x:Inp} (h:XQ F N c vln vsm w s0 ⟨M,n,l⟩ vco l0 b x Y) (hp:x.p=0):Y.cell? ⟨c,0,none⟩=some (pt F.g 0)/\Y.cell? ⟨b,1,none⟩=some (.int .i64 0)/\Y.cell? ⟨b,2,none⟩=some (.int .u8 x.d)/\Y.rangeAt F.g 35 [.int .u8 M.p0.d,.bool M.p0.l,.int .u8 M.p0.s]:=by
 obtain ⟨v,hB⟩:=h.km.i.bd
 exact ⟨h.cb.bx.at 0 _ rfl,by rw [<- hp];exact h.bx.at 1 _ rfl,h.bx.at 2 _ rfl,hB.pad0⟩
theorem XQ.q1 {M:Mach} {n:Int} {l:List Wt} {Y:World} {b:Nat} {x:Inp} (h:XQ F N c vln vsm w s0 ⟨M,n,l⟩ vco l0 b x Y) (hp:x.p=1):Y.cell? ⟨c,0,none⟩=some (pt F.g 0)/\Y.cell? ⟨b,1,none⟩=some (.int .i64 1)/\Y.cell? ⟨b,2,none⟩=some (.int .u8 x.d)/\Y.rangeAt F.g 38 [.int .u8 M.p1.d,.bool M.p1.l,.int .u8 M.p1.s]:=by
 obtain ⟨v,hB⟩:=h.km.i.bd
 exact ⟨h.cb.bx.at 0 _ rfl,by rw [<- hp];exact h.bx.at 1 _ rfl,h.bx.at 2 _ rfl,hB.pad1⟩
def left (c:Nat) (W:World):Nat:=match W.cell? ⟨c,1,none⟩ with | some (.slice _ n _)=>n | _=>0
theorem left_of {W:World} {a:Option Addr} {n k:Nat} (h:W.cell? ⟨c,1,none⟩=some (.slice a n k)):left c W=n:=by unfold left;rw [h]
theorem InpAt.len {B:Nat} {v:Value} {l:List Inp} (h:InpAt B w v l):∃ a k,v = .slice a l.length k:=by
 rcases h with ⟨rfl,a,k,e⟩ | ⟨g,o,k,e,_⟩
 ·exact ⟨a,k,e⟩
 ·exact ⟨_,k,e⟩
theorem InpAt.tail {B g o cap:Nat} {x:Inp} {tl:List Inp} (h:InpAt B w (.slice (some ⟨g,o,none⟩) (x :: tl).length cap) (x :: tl)):InpAt B w (.slice (if cap=1 then some ⟨g,o,none⟩ else some ⟨g,o+3,none⟩) tl.length (cap - 1)) tl:=by
 rcases h with ⟨e,_⟩ | ⟨g',o',cap',e,h2,h3,h4,h5⟩
 ·cases e
 ·cases e
  by_cases ht:tl=[]
  ·subst ht
   exact Or.inl ⟨rfl,_,_,rfl⟩
  ·have hl:0 < tl.length:=by
    cases tl with
    | nil=>exact absurd rfl ht
    | cons=>simp
   have h2':tl.length+1<=cap:=h2
   rw [if_neg (by omega)]
   refine Or.inr ⟨g,o+3,cap - 1,rfl,by omega,h3,h4,fun j y hj=>?_⟩
   have:=h5 (j+1) y hj
   rw [show o+3+3 * j=o+3 * (j+1) by omega]
   exact this
theorem Lk.press {M:Mach} {n:Int} {l:List Wt} (hF:Fb F N) (hI:BI F N w ⟨M,n,l⟩) (hc:CB F N c vco vln vsm w) (hco:InpAt F.B w vco l0) (hok:∀ x ∈ l0,x.ok):Calls Tryz.prog 49 #[pt c 0] w fun e w'=>e = .returned (.tuple #[]) /\ ∃ vco',XP F N c vln vsm w ⟨M,n,l⟩ ⟨M.pressed l0,n,l⟩ vco' (M.coming l0) w':=by
 have HF:=hid hF
 have H0:Hid (XP F N c vln vsm w ⟨M,n,l⟩ ⟨M,n,l⟩ vco l0 w):=⟨(NM.refl hF hI (st0 w)).km,hc,hco⟩
 obtain ⟨s0,hs0⟩:∃ s0:Bst,s0=⟨M,n,l⟩:=⟨_,rfl⟩
 have HOK0:=hid hok
 clear hF hI hc hco hok
 go_enter Tryz.func49,Tryz.ntmps49
 go_wp2
 go_loopw [] (fun wr=>∃ (M1:Mach) (l1:List Inp) (v1:Value),XP F N c vln vsm w ⟨M,n,l⟩ ⟨M1,n,l⟩ v1 l1 wr/\M1.pressed l1=M.pressed l0/\M1.coming l1=M.coming l0 /\ ∀ x ∈ l1,x.ok) (fun wr=>left c wr)
 case atStart=>exact ⟨M,l0,vco,H0.out,rfl,rfl,HOK0.out⟩
 case round =>
  clear H0
  obtain ⟨M1,l1,v1,hX,hp,hcm,hok⟩:=hrel
  have HX0:=hid hX
  have HPE:=hid hp
  have HCE:=hid hcm
  have HOKS:=hid hok
  obtain ⟨vB,hB⟩:=hX.km.i.bd
  have k0:=hX.cb.bx.at 0 _ rfl
  have k1:=hX.cb.bx.at 1 v1 rfl
  have kz:=hX.cb.z
  have kf:=hX.cb.bx.f 1
  have m72:=hB.at 72 (.int .i64 M1.clock) rfl
  have mz:=hB.bx.z
  have hco:=hX.co
  clear hX hp hcm hok hB
  cases l1 with
  | nil =>
   obtain ⟨a1,q1,e1⟩:=hco.len
   clear hco
   subst e1
   go_wp2
   go_quiet (fail)
   go_wp2
   go_end0
   exact ⟨rfl,_,by have h:=HX0.out.kept HF.out (Bl.drewN (st0 wr) nq);rw [<- HPE.out,<- HCE.out];exact h⟩
  | cons x tl =>
   rcases hco with ⟨e,_⟩ | ⟨g,o,cap,rfl,hcap,hgB,hgz,hcs⟩
   ·cases e
   ·obtain ⟨y0,y1,y2⟩:=hcs 0 x rfl
    have x0:wr.cell? ⟨g,o,none⟩=some (.int .i64 x.c):=y0
    have x1:wr.cell? ⟨g,o+1,none⟩=some (.int .i64 x.p):=y1
    have x2:wr.cell? ⟨g,o+2,none⟩=some (.int .u8 x.d):=y2
    clear y0 y1 y2
    have HCS:=hid hcs
    have HGB:=hid hgB
    have HCAP:=hid hcap
    have hlen:((x :: tl).length:Int)=(tl.length:Int)+1:=by simp
    have hlen0:(0:Int) < (tl.length:Int)+1:=by omega
    clear hcs hgB
    by_cases hle:x.c<=M1.clock
    ·have hx:=HOKS.out x (List.mem_cons_self ..)
     have HOK:=hid hx
     clear hx
     have HLE:=hid hle
     go_wp2
     go_quiet (fail)
     go_upto_region 1 with fail
     refine Pl.cutW (XP F N c vln vsm w ⟨M,n,l⟩ ⟨M1,n,l⟩ (.slice (some ⟨g,o,none⟩) (x :: tl).length cap) (x :: tl)) (HX0.out.kept HF.out (Bl.drewN (st0 wr) nq)) ?_
     intro Y hY
     have HLF:Hid (left c wr=tl.length+1):=hid (left_of k1)
     clear x0 x1 x2 k0 k1 kz kf m72 mz hgz hle HX0
     have HY0:=hid hY
     have k1:=hY.cb.bx.at 1 (.slice (some ⟨g,o,none⟩) (tl.length+1) cap) rfl
     have k0:=hY.cb.bx.at 0 _ rfl
     have kz:=hY.cb.z
     rcases hY.co with ⟨e,_⟩ | ⟨g',o',cap',e,hcap',hgB,hgz,hcs⟩
     ·cases e
     ·cases e
      obtain ⟨y0,y1,y2⟩:=hcs 0 x rfl
      have x0:Y.cell? ⟨g,o,none⟩=some (.int .i64 x.c):=y0
      have x1:Y.cell? ⟨g,o+1,none⟩=some (.int .i64 x.p):=y1
      have x2:Y.cell? ⟨g,o+2,none⟩=some (.int .u8 x.d):=y2
      clear y0 y1 y2 hY
      go_upto_region 2 with fail
      refine Pl.cutW (XQ F N c vln vsm w ⟨M,n,l⟩ ⟨M1,n,l⟩ (.slice (some ⟨g,o,none⟩) (x :: tl).length cap) (x :: tl) Y.heap.size x) ⟨HY0.out.kept HF.out (stA (st0 Y) _),Bx.new Y [.int .i64 x.c,.int .i64 x.p,.int .u8 x.d] _ rfl⟩ ?_
      intro U hU
      have HX:=hid (hU.kept' HF.out (st0 U).drew)
      clear k0 k1 kz x0 x1 x2 hgB hgz hcs hcap' HY0
      rcases HOK.out.p with hp | hp
      ·have HP:=hid hp
       have hS:=(hU.kept' HF.out (st0 U).drew).q0 hp
       clear hU hp
       refine wp_region_G (S:=fun w'=>w'.cell? ⟨c,0,none⟩=some (pt F.g 0)/\w'.cell? ⟨Y.heap.size,1,none⟩=some (.int .i64 0)/\w'.cell? ⟨Y.heap.size,2,none⟩=some (.int .u8 x.d)/\w'.rangeAt F.g 35 [.int .u8 M1.p0.d,.bool M1.p0.l,.int .u8 M1.p0.s]) (st:=22) (by kernel_rfl) ?_
       refine wpAnyG_pure (i:=0) (oi:=⟨some 32,_,_,_,_,none⟩) (v:=?_) rfl (by kernel_rfl) (by kernel_rfl) (by kernel_rfl) (by decide) (fun _ _ _ h=>h) (Or.inl ⟨by rfl,?_⟩) (fun _=>hS) ?_
       rotate_left 1
       focus (intro w hSw;go_simp;try (with_reducible rfl))
       simp only [Act.put,xA,xB,xC]
       refine wpAnyG_pure (i:=1) (oi:=⟨some 33,_,_,_,_,none⟩) (v:=?_) rfl (by kernel_rfl) (by kernel_rfl) (by kernel_rfl) (by decide) (fun _ _ _ h=>h) (Or.inl ⟨by rfl,?_⟩) (fun _=>hS) ?_
       rotate_left 1
       focus (intro w hSw;go_simp;try (with_reducible rfl))
       simp only [Act.put,xA,xB,xC]
       refine wpAnyG_pure (i:=2) (oi:=⟨some 34,_,_,_,_,none⟩) (v:=?_) rfl (by kernel_rfl) (by kernel_rfl) (by kernel_rfl) (by decide) (fun _ _ _ h=>h) (Or.inl ⟨by rfl,?_⟩) (fun _=>hS) ?_
       rotate_left 1
       focus (intro w hSw;go_simp;try (with_reducible rfl))
       simp only [Act.put,xA,xB,xC]
       refine wpAnyG_pure (i:=4) (oi:=⟨some 36,_,_,_,_,none⟩) (v:=?_) rfl (by kernel_rfl) (by kernel_rfl) (by kernel_rfl) (by decide) (fun _ _ _ h=>h) (Or.inl ⟨by rfl,?_⟩) (fun _=>hS) ?_
       rotate_left 1
       focus (intro w hSw;go_simp;try (with_reducible rfl))
       simp only [Act.put,xA,xB,xC]
       refine wpAnyG_pure (i:=6) (oi:=⟨some 38,_,_,_,_,none⟩) (v:=?_) rfl (by kernel_rfl) (by kernel_rfl) (by kernel_rfl) (by decide) (fun _ _ _ h=>h) (Or.inl ⟨by rfl,?_⟩) (fun _=>hS) ?_
       rotate_left 1
       focus (intro w hSw;go_simp;try (with_reducible rfl))
       simp only [Act.put,xA,xB,xC]
       refine wpAnyG_pure (i:=7) (oi:=⟨some 39,_,_,_,_,none⟩) (v:=?_) rfl (by kernel_rfl) (by kernel_rfl) (by kernel_rfl) (by decide) (fun _ _ _ h=>h) (Or.inl ⟨by rfl,?_⟩) (fun _=>hS) ?_
       rotate_left 1
       focus (intro w hSw;go_simp;try (with_reducible rfl))
       simp only [Act.put,xA,xB,xC]
       refine wpAnyG_pure (i:=8) (oi:=⟨some 40,_,_,_,_,none⟩) (v:=?_) rfl (by kernel_rfl) (by kernel_rfl) (by kernel_rfl) (by decide) (fun _ _ _ h=>h) (Or.inl ⟨by rfl,?_⟩) (fun _=>hS) ?_
       rotate_left 1
       focus (intro w hSw;go_simp;try (with_reducible rfl))
       simp only [Act.put,xA,xB,xC]
       refine wpAnyG_pure (i:=10) (oi:=⟨some 42,_,_,_,_,none⟩) (v:=?_) rfl (by kernel_rfl) (by kernel_rfl) (by kernel_rfl) (by decide) (fun _ _ _ h=>h) (Or.inl ⟨by rfl,?_⟩) (fun _=>hS) ?_
       rotate_left 1
       focus (intro w hSw;go_simp;try (with_reducible rfl))
       simp only [Act.put,xA,xB,xC]
       refine wpAnyG_pure (i:=16) (oi:=⟨some 48,_,_,_,_,none⟩) (v:=?_) rfl (by kernel_rfl) (by kernel_rfl) (by kernel_rfl) (by decide) (fun _ _ _ h=>h) (Or.inl ⟨by rfl,?_⟩) (fun _=>hS) ?_
       rotate_left 1
       focus (intro w hSw;go_simp;try (with_reducible rfl))
       simp only [Act.put,xA,xB,xC]
       refine wpAnyG_take (i:=3) (oi:=⟨some 35,_,_,_,_,none⟩) (v:=pt F.g 0) rfl (by kernel_rfl) (by kernel_rfl) (by kernel_rfl) (by kernel_rfl) (by decide) (by kernel_rfl) (fun _ _ _ h=>h) (Or.inl ⟨by rfl,?_⟩) hS ?_
       ·intro w' hSw
        have hcc:=hSw.1
        have hcz:=World.block_lt_of_cell? w' _ hcc
        go_simp
        try (with_reducible rfl)
       simp only [Act.put,xA,xB,xC]
       refine wpAnyG_take (i:=5) (oi:=⟨some 37,_,_,_,_,none⟩) (v:=.int .i64 0) rfl (by kernel_rfl) (by kernel_rfl) (by kernel_rfl) (by kernel_rfl) (by decide) (by kernel_rfl) (fun _ _ _ h=>h) (Or.inl ⟨by rfl,?_⟩) hS ?_
       ·intro w' hSw
        have hcc:=hSw.2.1
        have hcz:=World.block_lt_of_cell? w' _ hcc
        go_simp
        try (with_reducible rfl)
       simp only [Act.put,xA,xB,xC]
       refine wpAnyG_take (i:=9) (oi:=⟨some 41,_,_,_,_,none⟩) (v:=pt F.g 0) rfl (by kernel_rfl) (by kernel_rfl) (by kernel_rfl) (by kernel_rfl) (by decide) (by kernel_rfl) (fun _ _ _ h=>h) (Or.inl ⟨by rfl,?_⟩) hS ?_
       ·intro w' hSw
        have hcc:=hSw.1
        have hcz:=World.block_lt_of_cell? w' _ hcc
        go_simp
        try (with_reducible rfl)
       simp only [Act.put,xA,xB,xC]
       refine wpAnyG_take (i:=11) (oi:=⟨some 43,_,_,_,_,none⟩) (v:=.int .i64 0) rfl (by kernel_rfl) (by kernel_rfl) (by kernel_rfl) (by kernel_rfl) (by decide) (by kernel_rfl) (fun _ _ _ h=>h) (Or.inl ⟨by rfl,?_⟩) hS ?_
       ·intro w' hSw
        have hcc:=hSw.2.1
        have hcz:=World.block_lt_of_cell? w' _ hcc
        go_simp
        try (with_reducible rfl)
       simp only [Act.put,xA,xB,xC]
       refine wpAnyG_take (i:=17) (oi:=⟨some 49,_,_,_,_,none⟩) (v:=.int .u8 x.d) rfl (by kernel_rfl) (by kernel_rfl) (by kernel_rfl) (by kernel_rfl) (by decide) (by kernel_rfl) (fun _ _ _ h=>h) (Or.inl ⟨by rfl,?_⟩) hS ?_
       ·intro w' hSw
        have hcc:=hSw.2.2.1
        have hcz:=World.block_lt_of_cell? w' _ hcc
        go_simp
        try (with_reducible rfl)
       simp only [Act.put,xA,xB,xC]
       refine wpAnyG_pure (i:=12) (oi:=⟨some 44,_,_,_,_,none⟩) (v:=?_) rfl (by kernel_rfl) (by kernel_rfl) (by kernel_rfl) (by decide) (fun _ _ _ h=>h) (Or.inl ⟨by rfl,?_⟩) (fun _=>hS) ?_
       rotate_left 1
       focus (intro w hSw;go_simp;try (with_reducible rfl))
       simp only [Act.put,xA,xB,xC]
       refine wpAnyG_pure (i:=13) (oi:=⟨some 45,_,_,_,_,none⟩) (v:=?_) rfl (by kernel_rfl) (by kernel_rfl) (by kernel_rfl) (by decide) (fun _ _ _ h=>h) (Or.inl ⟨by rfl,?_⟩) (fun _=>hS) ?_
       rotate_left 1
       focus (intro w hSw;go_simp;try (with_reducible rfl))
       simp only [Act.put,xA,xB,xC]
       refine wpAnyG_pure (i:=14) (oi:=⟨some 46,_,_,_,_,none⟩) (v:=?_) rfl (by kernel_rfl) (by kernel_rfl) (by kernel_rfl) (by decide) (fun _ _ _ h=>h) (Or.inl ⟨by rfl,?_⟩) (fun _=>hS) ?_
       rotate_left 1
       focus (intro w hSw;go_simp;try (with_reducible rfl))
       simp only [Act.put,xA,xB,xC]
       refine wpAnyG_pure (i:=19) (oi:=⟨some 51,_,_,_,_,none⟩) (v:=?_) rfl (by kernel_rfl) (by kernel_rfl) (by kernel_rfl) (by decide) (fun _ _ _ h=>h) (Or.inl ⟨by rfl,?_⟩) (fun _=>hS) ?_
       rotate_left 1
       focus (intro w hSw;go_simp;try (with_reducible rfl))
       simp only [Act.put,xA,xB,xC]
       refine wpAnyG_pure (i:=20) (oi:=⟨some 52,_,_,_,_,none⟩) (v:=?_) rfl (by kernel_rfl) (by kernel_rfl) (by kernel_rfl) (by decide) (fun _ _ _ h=>h) (Or.inl ⟨by rfl,?_⟩) (fun _=>hS) ?_
       rotate_left 1
       focus (intro w hSw;go_simp;try (with_reducible rfl))
       simp only [Act.put,xA,xB,xC]
       refine wpAnyG_take (i:=15) (oi:=⟨some 47,_,_,_,_,none⟩) (v:=.agg ([.int .u8 M1.p0.d,.bool M1.p0.l,.int .u8 M1.p0.s]).toArray) rfl (by kernel_rfl) (by kernel_rfl) (by kernel_rfl) (by kernel_rfl) (by decide) (by kernel_rfl) (fun _ _ _ h=>h) (Or.inl ⟨by rfl,fun w' hSw=>exec_load_mid 28 _ rfl F.g 35 rfl ([.int .u8 M1.p0.d,.bool M1.p0.l,.int .u8 M1.p0.s]) _ hSw.2.2.2 Tryz.underlying28 rfl info_pad⟩) hS ?_
       simp only [Act.put,xA,xB,xC]
       refine wpAnyG_one (i:=18) (o:=⟨some 50,_,_,_,_,none⟩) (by kernel_rfl) rfl (fun K hK=>?_)
       go_simp
       go_at_call 84
       refine (press_any _ _ _ _ _).mono ?_
       rintro e w2 ⟨rfl,hb2⟩
       have HX1:=hid (HX.out.kept' HF.out hb2)
       clear hb2
       try go_wp2_with fail
       refine hK.out _ _ (fun _=>HX1.out.q0 HP.out) ?_
       clear hK K
       try simp only [Act.put,xA,xB,xC]
       clear hS
       have hS:=HX1.out.q0 HP.out
       refine wpAnyG_pure (i:=21) (oi:=⟨some 53,_,_,_,_,none⟩) (v:=?_) rfl (by kernel_rfl) (by kernel_rfl) (by kernel_rfl) (by decide) (fun _ _ _ h=>h) (Or.inl ⟨by rfl,?_⟩) (fun _=>hS) ?_
       rotate_left 1
       focus (intro w hSw;go_simp;try (with_reducible rfl))
       simp only [Act.put,xA,xB,xC]
       obtain ⟨v2,hB2⟩:=HX1.out.km.i.bd
       have HB2:=hid hB2
       clear hB2
       refine wpAnyG_one (i:=22) (o:=⟨none,_,_,_,_,none⟩) (by kernel_rfl) rfl (fun K hK=>?_)
       refine step_store_mid rfl 28 _ _ rfl F.g 35 _ rfl rfl (Bx.there HB2.out.bx 35 3 (by rw [Fx.len];omega)) info_pad (pad_one (M1.p0.press x.d)) ?_
       refine hK.out _ _ (fun h=>by simp at h) ?_
       clear hK K
       refine wpAnyG_done (by kernel_rfl) ?_ _
       have hpe:M1.press x={ M1 with p0:=M1.p0.press x.d }:=if_pos HP.out
       refine Pl.cutE (XP F N c vln vsm w ⟨M,n,l⟩ ⟨M1.press x,n,l⟩ (.slice (some ⟨g,o,none⟩) (x :: tl).length cap) (x :: tl)) ?_ ?_
       ·have hx:NM F N w2 ⟨M1,n,l⟩ ⟨M1.press x,n,l⟩ (w2.setCells F.g 35 [.int .u8 x.d,.bool M1.p0.l,.int .u8 (sel M1.p0.l x.d M1.p0.s)]):=NM.of (s':=⟨M1.press x,n,l⟩) HF.out HX1.out.km.i HX1.out.km.i.n (v:=v2) (by rw [hpe];exact HB2.out.puts (M':={ M1 with p0:=M1.p0.press x.d }) (tk':=⟨n,l,v2⟩) 35 [.int .u8 x.d,.bool M1.p0.l,.int .u8 (sel M1.p0.l x.d M1.p0.s)] (by simp) rfl ⟨rfl,rfl,rfl,rfl,rfl⟩ (hpe ▸ press_fit HB2.out.fit HOK.out)) (Bt.sets HB2.out.nd _ 35 _ (Bt.refl F w2))
        exact ⟨HX1.out.km.trans hx.km,hx.cb HX1.out.cb,HX1.out.co.kept hx.m.below⟩
       clear hpe
       intro V hV
       have k1:=hV.cb.bx.at 1 (.slice (some ⟨g,o,none⟩) (tl.length+1) cap) rfl
       have kz:=hV.cb.z
       have kf:=hV.cb.bx.f 1
       have HV:=hid hV
       have hcp:tl.length+1<=cap:=HCAP.out
       clear hV HX HX1 HB2 hS
       go_wp2
       refine ⟨⟨M1.press x,tl,_,⟨HV.out.km.set HF.out (HV.out.cb.big HV.out.km.i HF.out) HV.out.cb 1 _,HV.out.cb.put1 _,?_⟩,by rw [<- HPE.out,pressed_cons HLE.out],by rw [<- HCE.out,coming_cons HLE.out],fun y hy=>HOKS.out y (List.mem_cons_of_mem _ hy)⟩,?_⟩
       ·exact ((HV.out.co.tail).kept (Below.setCell (Below.refl _ _) (HV.out.cb.big HV.out.km.i HF.out) _))
       ·rw [HLF.out,left_of (Bx.at (HV.out.cb.put1 _).bx 1 _ rfl)]
        omega
      ·have HP:=hid hp
       have hS:=(hU.kept' HF.out (st0 U).drew).q1 hp
       clear hU hp
       refine wp_region_G (S:=fun w'=>w'.cell? ⟨c,0,none⟩=some (pt F.g 0)/\w'.cell? ⟨Y.heap.size,1,none⟩=some (.int .i64 1)/\w'.cell? ⟨Y.heap.size,2,none⟩=some (.int .u8 x.d)/\w'.rangeAt F.g 38 [.int .u8 M1.p1.d,.bool M1.p1.l,.int .u8 M1.p1.s]) (st:=22) (by kernel_rfl) ?_
       refine wpAnyG_pure (i:=0) (oi:=⟨some 32,_,_,_,_,none⟩) (v:=?_) rfl (by kernel_rfl) (by kernel_rfl) (by kernel_rfl) (by decide) (fun _ _ _ h=>h) (Or.inl ⟨by rfl,?_⟩) (fun _=>hS) ?_
       rotate_left 1
       focus (intro w hSw;go_simp;try (with_reducible rfl))
       simp only [Act.put,xA,xB,xC]
       refine wpAnyG_pure (i:=1) (oi:=⟨some 33,_,_,_,_,none⟩) (v:=?_) rfl (by kernel_rfl) (by kernel_rfl) (by kernel_rfl) (by decide) (fun _ _ _ h=>h) (Or.inl ⟨by rfl,?_⟩) (fun _=>hS) ?_
       rotate_left 1
       focus (intro w hSw;go_simp;try (with_reducible rfl))
       simp only [Act.put,xA,xB,xC]
       refine wpAnyG_pure (i:=2) (oi:=⟨some 34,_,_,_,_,none⟩) (v:=?_) rfl (by kernel_rfl) (by kernel_rfl) (by kernel_rfl) (by decide) (fun _ _ _ h=>h) (Or.inl ⟨by rfl,?_⟩) (fun _=>hS) ?_
       rotate_left 1
       focus (intro w hSw;go_simp;try (with_reducible rfl))
       simp only [Act.put,xA,xB,xC]
       refine wpAnyG_pure (i:=4) (oi:=⟨some 36,_,_,_,_,none⟩) (v:=?_) rfl (by kernel_rfl) (by kernel_rfl) (by kernel_rfl) (by decide) (fun _ _ _ h=>h) (Or.inl ⟨by rfl,?_⟩) (fun _=>hS) ?_
       rotate_left 1
       focus (intro w hSw;go_simp;try (with_reducible rfl))
       simp only [Act.put,xA,xB,xC]
       refine wpAnyG_pure (i:=6) (oi:=⟨some 38,_,_,_,_,none⟩) (v:=?_) rfl (by kernel_rfl) (by kernel_rfl) (by kernel_rfl) (by decide) (fun _ _ _ h=>h) (Or.inl ⟨by rfl,?_⟩) (fun _=>hS) ?_
       rotate_left 1
       focus (intro w hSw;go_simp;try (with_reducible rfl))
       simp only [Act.put,xA,xB,xC]
       refine wpAnyG_pure (i:=7) (oi:=⟨some 39,_,_,_,_,none⟩) (v:=?_) rfl (by kernel_rfl) (by kernel_rfl) (by kernel_rfl) (by decide) (fun _ _ _ h=>h) (Or.inl ⟨by rfl,?_⟩) (fun _=>hS) ?_
       rotate_left 1
       focus (intro w hSw;go_simp;try (with_reducible rfl))
       simp only [Act.put,xA,xB,xC]
       refine wpAnyG_pure (i:=8) (oi:=⟨some 40,_,_,_,_,none⟩) (v:=?_) rfl (by kernel_rfl) (by kernel_rfl) (by kernel_rfl) (by decide) (fun _ _ _ h=>h) (Or.inl ⟨by rfl,?_⟩) (fun _=>hS) ?_
       rotate_left 1
       focus (intro w hSw;go_simp;try (with_reducible rfl))
       simp only [Act.put,xA,xB,xC]
       refine wpAnyG_pure (i:=10) (oi:=⟨some 42,_,_,_,_,none⟩) (v:=?_) rfl (by kernel_rfl) (by kernel_rfl) (by kernel_rfl) (by decide) (fun _ _ _ h=>h) (Or.inl ⟨by rfl,?_⟩) (fun _=>hS) ?_
       rotate_left 1
       focus (intro w hSw;go_simp;try (with_reducible rfl))
       simp only [Act.put,xA,xB,xC]
       refine wpAnyG_pure (i:=16) (oi:=⟨some 48,_,_,_,_,none⟩) (v:=?_) rfl (by kernel_rfl) (by kernel_rfl) (by kernel_rfl) (by decide) (fun _ _ _ h=>h) (Or.inl ⟨by rfl,?_⟩) (fun _=>hS) ?_
       rotate_left 1
       focus (intro w hSw;go_simp;try (with_reducible rfl))
       simp only [Act.put,xA,xB,xC]
       refine wpAnyG_take (i:=3) (oi:=⟨some 35,_,_,_,_,none⟩) (v:=pt F.g 0) rfl (by kernel_rfl) (by kernel_rfl) (by kernel_rfl) (by kernel_rfl) (by decide) (by kernel_rfl) (fun _ _ _ h=>h) (Or.inl ⟨by rfl,?_⟩) hS ?_
       ·intro w' hSw
        have hcc:=hSw.1
        have hcz:=World.block_lt_of_cell? w' _ hcc
        go_simp
        try (with_reducible rfl)
       simp only [Act.put,xA,xB,xC]
       refine wpAnyG_take (i:=5) (oi:=⟨some 37,_,_,_,_,none⟩) (v:=.int .i64 1) rfl (by kernel_rfl) (by kernel_rfl) (by kernel_rfl) (by kernel_rfl) (by decide) (by kernel_rfl) (fun _ _ _ h=>h) (Or.inl ⟨by rfl,?_⟩) hS ?_
       ·intro w' hSw
        have hcc:=hSw.2.1
        have hcz:=World.block_lt_of_cell? w' _ hcc
        go_simp
        try (with_reducible rfl)
       simp only [Act.put,xA,xB,xC]
       refine wpAnyG_take (i:=9) (oi:=⟨some 41,_,_,_,_,none⟩) (v:=pt F.g 0) rfl (by kernel_rfl) (by kernel_rfl) (by kernel_rfl) (by kernel_rfl) (by decide) (by kernel_rfl) (fun _ _ _ h=>h) (Or.inl ⟨by rfl,?_⟩) hS ?_
       ·intro w' hSw
        have hcc:=hSw.1
        have hcz:=World.block_lt_of_cell? w' _ hcc
        go_simp
        try (with_reducible rfl)
       simp only [Act.put,xA,xB,xC]
       refine wpAnyG_take (i:=11) (oi:=⟨some 43,_,_,_,_,none⟩) (v:=.int .i64 1) rfl (by kernel_rfl) (by kernel_rfl) (by kernel_rfl) (by kernel_rfl) (by decide) (by kernel_rfl) (fun _ _ _ h=>h) (Or.inl ⟨by rfl,?_⟩) hS ?_
       ·intro w' hSw
        have hcc:=hSw.2.1
        have hcz:=World.block_lt_of_cell? w' _ hcc
        go_simp
        try (with_reducible rfl)
       simp only [Act.put,xA,xB,xC]
       refine wpAnyG_take (i:=17) (oi:=⟨some 49,_,_,_,_,none⟩) (v:=.int .u8 x.d) rfl (by kernel_rfl) (by kernel_rfl) (by kernel_rfl) (by kernel_rfl) (by decide) (by kernel_rfl) (fun _ _ _ h=>h) (Or.inl ⟨by rfl,?_⟩) hS ?_
       ·intro w' hSw
        have hcc:=hSw.2.2.1
        have hcz:=World.block_lt_of_cell? w' _ hcc
        go_simp
        try (with_reducible rfl)
       simp only [Act.put,xA,xB,xC]
       refine wpAnyG_pure (i:=12) (oi:=⟨some 44,_,_,_,_,none⟩) (v:=?_) rfl (by kernel_rfl) (by kernel_rfl) (by kernel_rfl) (by decide) (fun _ _ _ h=>h) (Or.inl ⟨by rfl,?_⟩) (fun _=>hS) ?_
       rotate_left 1
       focus (intro w hSw;go_simp;try (with_reducible rfl))
       simp only [Act.put,xA,xB,xC]
       refine wpAnyG_pure (i:=13) (oi:=⟨some 45,_,_,_,_,none⟩) (v:=?_) rfl (by kernel_rfl) (by kernel_rfl) (by kernel_rfl) (by decide) (fun _ _ _ h=>h) (Or.inl ⟨by rfl,?_⟩) (fun _=>hS) ?_
       rotate_left 1
       focus (intro w hSw;go_simp;try (with_reducible rfl))
       simp only [Act.put,xA,xB,xC]
       refine wpAnyG_pure (i:=14) (oi:=⟨some 46,_,_,_,_,none⟩) (v:=?_) rfl (by kernel_rfl) (by kernel_rfl) (by kernel_rfl) (by decide) (fun _ _ _ h=>h) (Or.inl ⟨by rfl,?_⟩) (fun _=>hS) ?_
       rotate_left 1
       focus (intro w hSw;go_simp;try (with_reducible rfl))
       simp only [Act.put,xA,xB,xC]
       refine wpAnyG_pure (i:=19) (oi:=⟨some 51,_,_,_,_,none⟩) (v:=?_) rfl (by kernel_rfl) (by kernel_rfl) (by kernel_rfl) (by decide) (fun _ _ _ h=>h) (Or.inl ⟨by rfl,?_⟩) (fun _=>hS) ?_
       rotate_left 1
       focus (intro w hSw;go_simp;try (with_reducible rfl))
       simp only [Act.put,xA,xB,xC]
       refine wpAnyG_pure (i:=20) (oi:=⟨some 52,_,_,_,_,none⟩) (v:=?_) rfl (by kernel_rfl) (by kernel_rfl) (by kernel_rfl) (by decide) (fun _ _ _ h=>h) (Or.inl ⟨by rfl,?_⟩) (fun _=>hS) ?_
       rotate_left 1
       focus (intro w hSw;go_simp;try (with_reducible rfl))
       simp only [Act.put,xA,xB,xC]
       refine wpAnyG_take (i:=15) (oi:=⟨some 47,_,_,_,_,none⟩) (v:=.agg ([.int .u8 M1.p1.d,.bool M1.p1.l,.int .u8 M1.p1.s]).toArray) rfl (by kernel_rfl) (by kernel_rfl) (by kernel_rfl) (by kernel_rfl) (by decide) (by kernel_rfl) (fun _ _ _ h=>h) (Or.inl ⟨by rfl,fun w' hSw=>exec_load_mid 28 _ rfl F.g 38 rfl ([.int .u8 M1.p1.d,.bool M1.p1.l,.int .u8 M1.p1.s]) _ hSw.2.2.2 Tryz.underlying28 rfl info_pad⟩) hS ?_
       simp only [Act.put,xA,xB,xC]
       refine wpAnyG_one (i:=18) (o:=⟨some 50,_,_,_,_,none⟩) (by kernel_rfl) rfl (fun K hK=>?_)
       go_simp
       go_at_call 84
       refine (press_any _ _ _ _ _).mono ?_
       rintro e w2 ⟨rfl,hb2⟩
       have HX1:=hid (HX.out.kept' HF.out hb2)
       clear hb2
       try go_wp2_with fail
       refine hK.out _ _ (fun _=>HX1.out.q1 HP.out) ?_
       clear hK K
       try simp only [Act.put,xA,xB,xC]
       clear hS
       have hS:=HX1.out.q1 HP.out
       refine wpAnyG_pure (i:=21) (oi:=⟨some 53,_,_,_,_,none⟩) (v:=?_) rfl (by kernel_rfl) (by kernel_rfl) (by kernel_rfl) (by decide) (fun _ _ _ h=>h) (Or.inl ⟨by rfl,?_⟩) (fun _=>hS) ?_
       rotate_left 1
       focus (intro w hSw;go_simp;try (with_reducible rfl))
       simp only [Act.put,xA,xB,xC]
       obtain ⟨v2,hB2⟩:=HX1.out.km.i.bd
       have HB2:=hid hB2
       clear hB2
       refine wpAnyG_one (i:=22) (o:=⟨none,_,_,_,_,none⟩) (by kernel_rfl) rfl (fun K hK=>?_)
       refine step_store_mid rfl 28 _ _ rfl F.g 38 _ rfl rfl (Bx.there HB2.out.bx 38 3 (by rw [Fx.len];omega)) info_pad (pad_one (M1.p1.press x.d)) ?_
       refine hK.out _ _ (fun h=>by simp at h) ?_
       clear hK K
       refine wpAnyG_done (by kernel_rfl) ?_ _
       have hpe:M1.press x={ M1 with p1:=M1.p1.press x.d }:=if_neg (by rw [HP.out];decide)
       refine Pl.cutE (XP F N c vln vsm w ⟨M,n,l⟩ ⟨M1.press x,n,l⟩ (.slice (some ⟨g,o,none⟩) (x :: tl).length cap) (x :: tl)) ?_ ?_
       ·have hx:NM F N w2 ⟨M1,n,l⟩ ⟨M1.press x,n,l⟩ (w2.setCells F.g 38 [.int .u8 x.d,.bool M1.p1.l,.int .u8 (sel M1.p1.l x.d M1.p1.s)]):=NM.of (s':=⟨M1.press x,n,l⟩) HF.out HX1.out.km.i HX1.out.km.i.n (v:=v2) (by rw [hpe];exact HB2.out.puts (M':={ M1 with p1:=M1.p1.press x.d }) (tk':=⟨n,l,v2⟩) 38 [.int .u8 x.d,.bool M1.p1.l,.int .u8 (sel M1.p1.l x.d M1.p1.s)] (by simp) rfl ⟨rfl,rfl,rfl,rfl,rfl⟩ (hpe ▸ press_fit HB2.out.fit HOK.out)) (Bt.sets HB2.out.nd _ 38 _ (Bt.refl F w2))
        exact ⟨HX1.out.km.trans hx.km,hx.cb HX1.out.cb,HX1.out.co.kept hx.m.below⟩
       clear hpe
       intro V hV
       have k1:=hV.cb.bx.at 1 (.slice (some ⟨g,o,none⟩) (tl.length+1) cap) rfl
       have kz:=hV.cb.z
       have kf:=hV.cb.bx.f 1
       have HV:=hid hV
       have hcp:tl.length+1<=cap:=HCAP.out
       clear hV HX HX1 HB2 hS
       go_wp2
       refine ⟨⟨M1.press x,tl,_,⟨HV.out.km.set HF.out (HV.out.cb.big HV.out.km.i HF.out) HV.out.cb 1 _,HV.out.cb.put1 _,?_⟩,by rw [<- HPE.out,pressed_cons HLE.out],by rw [<- HCE.out,coming_cons HLE.out],fun y hy=>HOKS.out y (List.mem_cons_of_mem _ hy)⟩,?_⟩
       ·exact ((HV.out.co.tail).kept (Below.setCell (Below.refl _ _) (HV.out.cb.big HV.out.km.i HF.out) _))
       ·rw [HLF.out,left_of (Bx.at (HV.out.cb.put1 _).bx 1 _ rfl)]
        omega
    ·have HLE:=hid hle
     have hle':M1.clock < x.c:=by omega
     clear hle
     go_wp2
     go_quiet (fail)
     go_wp2
     go_end0
     exact ⟨rfl,_,by have h:=HX0.out.kept HF.out (Bl.drewN (st0 wr) nq);rw [<- HPE.out,<- HCE.out,pressed_stop (Int.not_le.2 HLE.out),coming_stop (Int.not_le.2 HLE.out)];exact h⟩
end
def lcs:List Lin->List Value
 | []=>[]
 | x :: l=>.int .i64 x.f :: .int .i64 x.l :: (row16 x.px++lcs l)
theorem lcs_app:∀ (l k:List Lin),lcs (l++k)=lcs l++lcs k
 | [],k=>rfl
 | x :: l,k=>by simp only [lcs,List.cons_append,lcs_app l k,List.append_assoc]
structure CI (F : Fx) (N c : Nat) (vco vln vsm : Value) (w : World) (k : Cs) : Prop where
 i:BI F N w k.s
 cb:CB F N c vco vln vsm w
 co:InpAt F.B w vco k.co
 ok:∀ x ∈ k.co,x.ok
 ln:w.ownsRow N 58 18 vln k.ln.length (lcs k.ln)
 sm:w.ownsRow N 5 1 vsm k.sm.length (bcs k.sm)
section
variable {F : Fx} {N c : Nat} {vco vln vsm v' : Value} {w w1 : World} {k : Cs} {s' : Bst}
theorem row_at {t:TypeId} {z:Nat} {v:Value} {n:Nat} {xs:List Value} (h:w.ownsRow N t z v n xs):∀ j,v.ownBlock=some j->N<=j/\j < w.heap.size /\ ∃ cs,w.heap[j]? = some (.cells cs t (0,0)):=fun j e=>by
 rcases h.2 with ⟨e0,_⟩ | ⟨g,cap,cur,e0,hb,hg,_⟩
 ·rw [e0] at e;cases e
 ·rw [e0] at e;cases e
  exact ⟨hb,(Array.getElem?_eq_some_iff.1 hg).1,_,hg⟩
theorem row_out {t:TypeId} {z:Nat} {v:Value} {n:Nat} {xs:List Value} {s:Bst} (h:w.ownsRow N t z v n xs) (ht:t ≠ 62):∀ j,v.ownBlock=some j->¬ Tw (BT N) w s j:=fun j e=>by
 obtain ⟨h1,h2,cs,h3⟩:=row_at h j e
 exact Tw.of (fun x=>Nat.not_lt.2 h1 x) h3 ht
theorem row_ne {t t':TypeId} {z:Nat} {v:Value} {n:Nat} {xs:List Value} (h:w.ownsRow N t z v n xs) {b:Nat} {cs':Array Value} {fr:Nat × Nat} (hb:w.heap[b]? = some (.cells cs' t' fr)) (ht:t ≠ t'):v.ownBlock ≠ some b:=fun e=>by
 obtain ⟨h1,h2,cs,h3⟩:=row_at h b e
 rw [hb] at h3
 simp only [Option.some.injEq,Obj.cells.injEq] at h3
 exact ht h3.2.1.symm
theorem CI.keep (hF:Fb F N) (h:CI F N c vco vln vsm w k) (hb:Below w.heap.size w w1):CI F N c vco vln vsm w1 k :=
 ⟨h.i.kept hF hb,h.cb.kept hb,h.co.kept (hb.mono h.i.big),h.ok,ows_of h.ln (fun j e=>hb.block j (row_at h.ln j e).2.1),ows_of h.sm (fun j e=>hb.block j (row_at h.sm j e).2.1)⟩
theorem CI.step (h:CI F N c vco vln vsm w k) (hm:NM F N w k.s s' w1):CI F N c vco vln vsm w1 { k with s:=s' } :=
 ⟨hm.i,hm.cb h.cb,h.co.kept hm.m.below,h.ok,ows_of h.ln (fun j e=>hm.m.block j (row_at h.ln j e).2.1 (row_out h.ln (by decide) j e)),ows_of h.sm (fun j e=>hm.m.block j (row_at h.sm j e).2.1 (row_out h.sm (by decide) j e))⟩
theorem CI.pressed {l:List Inp} (h:CI F N c vco vln vsm w k) (hx:XP F N c vln vsm w k.s s' v' l w1) (hl:∀ x ∈ l,x.ok):CI F N c v' vln vsm w1 { k with s:=s',co:=l } :=
 have hn:∀ {t:TypeId} {z:Nat} {v:Value} {n:Nat} {xs:List Value},w.ownsRow N t z v n xs->t ≠ 62->t ≠ 90->∀ j,v.ownBlock=some j->w1.heap[j]? = w.heap[j]?:=fun ho h1 h2 j e =>
  hx.km.m.block j (row_at ho j e).2.1 (fun y=>y.elim (fun e'=>row_ne ho h.cb.blk h2 (by rw [e,e'])) (row_out ho h1 j e))
 ⟨hx.km.i,hx.cb,hx.co,hl,ows_of h.ln (hn h.ln (by decide) (by decide)),ows_of h.sm (hn h.sm (by decide) (by decide))⟩
theorem CI.big (hF:Fb F N) (h:CI F N c vco vln vsm w k):F.B<=c:=h.cb.big h.i hF
theorem CI.bigN (hF:Fb F N) (h:CI F N c vco vln vsm w k):F.B<=N:=by
 obtain ⟨v,hB⟩:=h.i.bd
 have:=hB.nd.lo.1
 have:=hF.into.g
 omega
theorem CI.grow3 {g cap:Nat} {xs:List UInt8} (hF:Fb F N) (h:CI F N c vco vln vsm w k) (ho:w1.ownsRow N 5 1 (.slice (some ⟨g,0,none⟩) xs.length cap) xs.length (bcs xs)) (hg:w.grownBy w1 vsm.ownBlock) :
 CI F N c vco vln (.slice (some ⟨g,0,none⟩) xs.length cap) (w1.setCell ⟨c,3,none⟩ (.slice (some ⟨g,0,none⟩) xs.length cap)) { k with sm:=xs }/\Below F.B w (w1.setCell ⟨c,3,none⟩ (.slice (some ⟨g,0,none⟩) xs.length cap)):=by
 have hz:=hg.size
 have hcn:some c ≠ vsm.ownBlock:=fun e=>row_ne h.sm h.cb.blk (by decide) e.symm
 have hcb:CB F N c vco vln vsm w1:=h.cb.same (hg.block c h.cb.z hcn)
 have hb:Below F.B w w1:=(Below.refl F.B w).grown hg h.i.big (fun j e=>Nat.le_trans (h.bigN hF) (row_at h.sm j e).1)
 have hi:BI F N w1 k.s:=h.i.keep hF hz (fun j hj=>hg.block j (hj.lt (fun i hi=>Nat.lt_of_lt_of_le hi h.i.N)) (fun e=>row_out h.sm (by decide) j e.symm hj))
 have hln:w1.ownsRow N 58 18 vln k.ln.length (lcs k.ln):=ows_of h.ln (fun j e=>by
  obtain ⟨_,h2,cs,h3⟩:=row_at h.ln j e
  exact hg.block j h2 (fun e'=>row_ne h.sm h3 (by decide) e'.symm))
 exact ⟨⟨hi.keep hF (by rw [size_set];exact Nat.le_refl _) (fun j hj=>heap_set_far (fun e=>hcb.out (by rw [<- e];exact hj))),hcb.put3 _,(h.co.kept hb).kept (Below.setCell (Below.refl _ _) (h.big hF) _),h.ok,ows_of hln (fun j e=>heap_set_far (fun e'=>row_ne hln hcb.blk (by decide) (by rw [e,e']))),ows_of ho (fun j e=>heap_set_far (fun e'=>row_ne ho hcb.blk (by decide) (by rw [e,e'])))⟩,hb.setCell (h.big hF) _⟩
theorem CI.grow2 {g cap:Nat} {xs:List Lin} (hF:Fb F N) (h:CI F N c vco vln vsm w k) (ho:w1.ownsRow N 58 18 (.slice (some ⟨g,0,none⟩) xs.length cap) xs.length (lcs xs)) (hg:w.grownBy w1 vln.ownBlock) :
 CI F N c vco (.slice (some ⟨g,0,none⟩) xs.length cap) vsm (w1.setCell ⟨c,2,none⟩ (.slice (some ⟨g,0,none⟩) xs.length cap)) { k with ln:=xs }/\Below F.B w (w1.setCell ⟨c,2,none⟩ (.slice (some ⟨g,0,none⟩) xs.length cap)):=by
 have hz:=hg.size
 have hcn:some c ≠ vln.ownBlock:=fun e=>row_ne h.ln h.cb.blk (by decide) e.symm
 have hcb:CB F N c vco vln vsm w1:=h.cb.same (hg.block c h.cb.z hcn)
 have hb:Below F.B w w1:=(Below.refl F.B w).grown hg h.i.big (fun j e=>Nat.le_trans (h.bigN hF) (row_at h.ln j e).1)
 have hi:BI F N w1 k.s:=h.i.keep hF hz (fun j hj=>hg.block j (hj.lt (fun i hi=>Nat.lt_of_lt_of_le hi h.i.N)) (fun e=>row_out h.ln (by decide) j e.symm hj))
 have hsm:w1.ownsRow N 5 1 vsm k.sm.length (bcs k.sm):=ows_of h.sm (fun j e=>by
  obtain ⟨_,h2,cs,h3⟩:=row_at h.sm j e
  exact hg.block j h2 (fun e'=>row_ne h.ln h3 (by decide) e'.symm))
 exact ⟨⟨hi.keep hF (by rw [size_set];exact Nat.le_refl _) (fun j hj=>heap_set_far (fun e=>hcb.out (by rw [<- e];exact hj))),hcb.put2 _,(h.co.kept hb).kept (Below.setCell (Below.refl _ _) (h.big hF) _),h.ok,ows_of ho (fun j e=>heap_set_far (fun e'=>row_ne ho hcb.blk (by decide) (by rw [e,e']))),ows_of hsm (fun j e=>heap_set_far (fun e'=>row_ne hsm hcb.blk (by decide) (by rw [e,e'])))⟩,hb.setCell (h.big hF) _⟩
end
section
variable {F : Fx} {N c : Nat} {vco vln vsm v' : Value} {w w1 : World} {k : Cs} {s' : Bst}
theorem slice_one {W:World} {v:Value} {y:UInt8} (h:sliceAt W v [y]):∃ g o cap,v = .slice (some ⟨g,o,none⟩) 1 cap/\W.cell? ⟨g,o,none⟩=some (.int .u8 y.toNat)/\g < W.heap.size:=by
 rcases h with ⟨_,_,_,e⟩ | ⟨g,o,cap,h1,h2,h3,h4⟩
 ·cases e
 ·exact ⟨g,o,cap,h1,h4 0 y rfl,h3⟩
theorem app1G {ops:Array Oper} {rest:List Oper} {o:Oper} {a:Act} {w:World} {Q:Exit->Act->World->Prop} (hgd:o.guard=none) (s x:Operand) (ho:o.op = .call { callee:=.builtin .append,args:=#[s,x],argTypes:=#[26,26] })
 (B:Nat) (v:Value) (xs:List UInt8) (hs:a.eval s=v) (hown:w.ownsRow B 5 1 v xs.length (bcs xs)) (g o' c:Nat) (y:UInt8) (hx:a.eval x = .slice (some ⟨g,o',none⟩) 1 c) (hc:w.cell? ⟨g,o',none⟩=some (.int .u8 y.toNat)) (hl:xs.length<=100000) (hB:B<=w.heap.size)
 (h:∀ g1 cap w',w'.ownsRow B 5 1 (.slice (some ⟨g1,0,none⟩) (xs++[y]).length cap) (xs++[y]).length (bcs (xs++[y]))->w.grownBy w' v.ownBlock->g1 < w'.heap.size->wpList Tryz.prog ops Q rest (a.put o.dst (.slice (some ⟨g1,0,none⟩) (xs++[y]).length cap)) w'):wpList Tryz.prog ops Q (o :: rest) a w:=by
 obtain ⟨i0,hi0,hz0,hz1,hz2⟩:=info_parts info_byte
 have e1:(xs++[y]).length=xs.length+1:=by simp
 have e2:bcs (xs++[y])=bcs xs++[.int .u8 y.toNat]:=by simp [bcs]
 rw [e1,e2] at h
 refine wpList_append_lies w hgd s x _ ho B 5 i0 _ 1 1 Tryz.underlying26 hi0 hz0 hz1 hz2 rfl (by omega) v xs.length (bcs xs) hs hown ⟨g,o',none⟩ 1 c [.int .u8 y.toNat] hx rfl (fun j u hj=>?_) (fun u hu=>?_) (by omega) (by unfold maxLen;omega) (by omega) hB _ rfl (fun g1 cap w' h1 h2 _ h3=>h g1 cap w' h1 h2 h3)
 ·match j,hj with
  | 0,hj =>
   simp only [List.getElem?_cons_zero,Option.some.injEq] at hj
   rw [<- hj];exact hc
  | j+1,hj=>simp at hj
 ·simp only [List.mem_singleton] at hu
  rw [hu];rfl
theorem Lk.showSample (hF:Fb F N) (h:CI F N c vco vln vsm w k) (hl:k.sm.length<=100000):Calls Tryz.prog 51 #[pt c 0] w fun e w'=>e = .returned (.tuple #[]) /\ ∃ vsm',CI F N c vco vln vsm' w' { k with sm:=k.sm++k.s.M.sample }/\Below F.B w w':=by
 obtain ⟨v,hB⟩:=h.i.bd
 obtain ⟨M,hM⟩:∃ M,M=k.s.M:=⟨_,rfl⟩
 rw [<- hM] at hB ⊢
 have k0:=h.cb.bx.at 0 _ rfl
 have kz:=h.cb.z
 have mz:=hB.bx.z
 have HF:=hid hF
 have H:=hid h
 have HB:=hid hB
 have HL:=hid hl
 have HSF:Hid M.s.fit:={ hB.fit.s with w:=hB.fit.w }
 by_cases hw:M.s.w=0
 ·have m60:w.cell? ⟨F.g,60,none⟩=some (.int .i64 0):=by rw [<- hw];exact hB.at 60 (.int .i64 M.s.w) rfl
  have e0:M.sample=[sm M.s]:=by
   unfold Mach.sample
   rw [if_pos hw]
   show []++one M.s=_
   unfold one
   rw [if_pos hw];rfl
  have e1:sms M.s 1=[sm M.s]:=by
   show []++one M.s=_
   unfold one
   rw [if_pos hw];rfl
  rw [e0]
  have HE1:=hid e1
  clear hF h hB hl hM hw e0 e1
  go_enter Tryz.func51,Tryz.ntmps51
  go_upto_region 2 with (first
   | (refine wpList_load_mid rfl 36 _ rfl F.g 45 rfl (sndL M.s) _ HB.out.sndR Tryz.underlying36 rfl info_sound ?_)
   | (go_at_call 55;refine (samples_ok M.s 1 _ HSF.out (by decide)).mono ?_;rintro e w2 ⟨v2,rfl,hs2,hb2⟩;have HB2:=hid hb2;have HS2:=hid hs2;clear hs2 hb2)
   | (refine wpList_store_mid rfl 36 _ _ rfl w2.heap.size 0 (sndL (M.s.ticks 1)).toArray rfl rfl ((Bx.new w2 zs 36 (b:=w2.heap.size) rfl).there 0 16 (by simp [zs])) info_sound (all16 (M.s.ticks 1)) ?_
      refine Pl.cutL (fun Z=>Below w.heap.size w Z/\sliceAt Z v2 (sms M.s 1)) ⟨stp HB2.out (Bl.puts (stA (st0 w2) _) (Nat.le_refl _) _),HS2.out.kept (Bl.puts (stA (st0 w2) _) (Nat.le_refl _) _)⟩ ?_
      rintro Z ⟨hZ1,hZ2⟩
      have HZ1:=hid hZ1
      have HZ2:=hid hZ2
      clear hZ1 hZ2))
  have HC:=hid (H.out.keep HF.out HZ1.out)
  have hs1:=HZ2.out
  rw [HE1.out] at hs1
  obtain ⟨g0,o0,cap0,rfl,hcell,hgz⟩:=slice_one hs1
  have HCE:=hid hcell
  have k3:=HC.out.cb.bx.at 3 vsm rfl
  have kz2:=HC.out.cb.z
  clear hs1 hcell k0 kz mz m60
  go_wp2_with (at_builtin;refine app1G (by rfl) _ _ (by rfl) N _ k.sm (by rfl) HC.out.sm g0 o0 cap0 (sm M.s) (by rfl) HCE.out HL.out (Nat.le_trans HC.out.i.N (Nat.le_refl _)) ?_;intro g1 cap1 W1 hown1 hg1 hz1;have HO1:=hid hown1;have HG1:=hid hg1;have hcb1:=HC.out.cb.same (hg1.block c HC.out.cb.z (fun e=>row_ne HC.out.sm HC.out.cb.blk (by decide) e.symm));have q3:=hcb1.bx.at 3 vsm rfl;have qz:=hcb1.z;have qf:=hcb1.bx.f 3;clear hcb1 hown1 hg1)
  go_end0
  obtain ⟨r1,r2⟩:=HC.out.grow3 HF.out HO1.out HG1.out
  rw [show (k.sm++[sm M.s]).length=k.sm.length+1 by simp] at r1 r2
  exact ⟨rfl,_,r1,(HZ1.out.mono H.out.i.big).trans r2⟩
 ·have hw':(M.s.w == 0)=false:=by simpa using hw
  have m60:=hB.at 60 (.int .i64 M.s.w) rfl
  have e0:M.sample=[]:=if_neg hw
  rw [e0,List.append_nil]
  clear hF h hB hl e0 hM
  go_enter Tryz.func51,Tryz.ntmps51
  go_wp2
  exact bodyPost_ret (v:=.tuple #[]) (by simp [results,Tryz.results51,go_sem]) rfl ⟨rfl,vsm,H.out,Below.refl _ _⟩
end
end Go.Proofs.YtbhpfkjfijdmaaaGreatDoor
