/-
  Parts of a proof, joined.
-/
import Derived.Test.YtbennamieealbaaGreatDoorZg42
import Derived.Test.YtbennamieealbaaGreatDoorZg36
set_option linter.unusedVariables false
set_option maxRecDepth 100000
set_option maxHeartbeats 6400000
namespace Go.Proofs.YtbennamieealbaaGreatDoor
open Go.ChangeShapes Go.WideShapes Go.ChangeAt Go.RowKit
structure Rn where
 r:Nat
 b1:Nat
 b2:Nat
 b3:Nat
 b4:Nat
 b5:Nat
 b6:Nat
abbrev evs (b1 b2:Nat):List Value:=[.func (.func 94) #[] #[pt b1 0],.func (.func 96) #[] #[pt b2 0],.func (.func 98) #[] #[pt b2 0],.func (.func 100) #[] #[pt b2 0]]
abbrev pts (b4 b5:Nat):List Value:=[.func (.func 102) #[] #[pt b5 0],.func (.func 104) #[] #[pt b5 0],.func (.func 105) #[] #[pt b5 0],.func (.func 107) #[] #[pt b5 0],.func (.func 108) #[] #[pt b4 0]]
structure EvB (F : Fx) (c b1 b2 b3 : Nat) (w : World) : Prop where
 x1:w.heap[b1]? = some (.cells #[pt c 0] 83 (0,0))
 x2:w.heap[b2]? = some (.cells #[pt F.g 0] 90 (0,0))
 x3:w.heap[b3]? = some (.cells (evs b1 b2).toArray 189 (0,0))
structure PtB (F : Fx) (c b4 b5 b6 : Nat) (w : World) : Prop where
 x1:w.heap[b4]? = some (.cells #[pt c 0] 83 (0,0))
 x2:w.heap[b5]? = some (.cells #[pt F.g 0] 90 (0,0))
 x3:w.heap[b6]? = some (.cells (pts b4 b5).toArray 143 (0,0))
structure RnB (F : Fx) (N c : Nat) (e : Int) (R : Rn) (w : World) : Prop where
 n:N<=R.r/\N<=R.b1/\N<=R.b2/\N<=R.b3/\N<=R.b4/\N<=R.b5/\N<=R.b6
 ne:R.r≠c/\R.b1≠c/\R.b2≠c/\R.b3≠c/\R.b4≠c/\R.b5≠c/\R.b6≠c
 xr:w.heap[R.r]? = some (.cells #[pt c 0,.int .i64 e,.slice (some ⟨R.b3,0,none⟩) 4 4,.slice (some ⟨R.b6,0,none⟩) 5 5] 140 (0,0))
 ev:EvB F c R.b1 R.b2 R.b3 w
 pb:PtB F c R.b4 R.b5 R.b6 w
theorem zaP {w:World} {b:Nat} {cs:Array Value} {t:TypeId} {fr:Nat × Nat} (h:w.heap[b]? = some (.cells cs t fr)) (i:Nat) (v:Value) (e:cs[i]? = some v):w.cell? ⟨b,i,none⟩=some v:=(Lib.cell_of_heap h i).trans e
theorem three (w:World) (o1 o2 o3:Obj):(((w.alloc o1).alloc o2).alloc o3).heap[w.heap.size]? = some o1/\(((w.alloc o1).alloc o2).alloc o3).heap[w.heap.size+1]? = some o2/\(((w.alloc o1).alloc o2).alloc o3).heap[w.heap.size+1+1]? = some o3:=by
 have e1:(((w.alloc o1).alloc o2).alloc o3).heap=((w.heap.push o1).push o2).push o3:=rfl
 rw [e1]
 refine ⟨?_,?_,?_⟩
 ·rw [Array.getElem?_push,if_neg (by simp;omega),Array.getElem?_push,if_neg (by simp),Array.getElem?_push,if_pos rfl]
 ·rw [Array.getElem?_push,if_neg (by simp),Array.getElem?_push,if_pos (by simp)]
 ·rw [Array.getElem?_push,if_pos (by simp)]
section
variable {F : Fx} {N c : Nat} {vco vln vsm : Value} {w w1 w2 w3 : World} {k q : Cs} {M M' : Mach} {tk : Tk} {e tt : Int} {R : Rn} {b1 b2 b3 b4 b5 b6 : Nat}
theorem EvB.kept (h:EvB F c b1 b2 b3 w) (hb:Below w.heap.size w w1):EvB F c b1 b2 b3 w1 :=
 ⟨(hb.block _ (Array.getElem?_eq_some_iff.1 h.x1).1).trans h.x1,(hb.block _ (Array.getElem?_eq_some_iff.1 h.x2).1).trans h.x2,(hb.block _ (Array.getElem?_eq_some_iff.1 h.x3).1).trans h.x3⟩
theorem RnB.kp (h:RnB F N c e R w) (k:Kp N c w w1):RnB F N c e R w1:=by
 obtain ⟨n0,n1,n2,n3,n4,n5,n6⟩:=h.n
 obtain ⟨m0,m1,m2,m3,m4,m5,m6⟩:=h.ne
 exact ⟨h.n,h.ne,k _ _ _ _ n0 m0 (by decide) (by decide) (by decide) h.xr,
  ⟨k _ _ _ _ n1 m1 (by decide) (by decide) (by decide) h.ev.x1,k _ _ _ _ n2 m2 (by decide) (by decide) (by decide) h.ev.x2,k _ _ _ _ n3 m3 (by decide) (by decide) (by decide) h.ev.x3⟩,
  ⟨k _ _ _ _ n4 m4 (by decide) (by decide) (by decide) h.pb.x1,k _ _ _ _ n5 m5 (by decide) (by decide) (by decide) h.pb.x2,k _ _ _ _ n6 m6 (by decide) (by decide) (by decide) h.pb.x3⟩⟩
theorem RnB.rc (h:RnB F N c e R w) (i:Nat) (v:Value) (hi:(#[pt c 0,.int .i64 e,.slice (some ⟨R.b3,0,none⟩) 4 4,.slice (some ⟨R.b6,0,none⟩) 5 5]:Array Value)[i]? = some v):w.cell? ⟨R.r,i,none⟩=some v:=zaP h.xr i v hi
theorem RnB.z (h:RnB F N c e R w):R.r<w.heap.size:=(Array.getElem?_eq_some_iff.1 h.xr).1
theorem CI.mach {v:Value} (hF:Fb F N) (h:CI F N c vco vln vsm w q) (hB:Bd F w1 M' ⟨q.s.n,q.s.l,v⟩) (hT:Bt F w w1):CI F N c vco vln vsm w1 { q with s:=⟨M',q.s.n,q.s.l⟩ }/\Below F.B w w1/\Kp N c w w1:=by
 have hn:NM F N w q.s ⟨M',q.s.n,q.s.l⟩ w1:=NM.of (s':=⟨M',q.s.n,q.s.l⟩) hF h.i h.i.n hB hT
 exact ⟨h.step hn,hn.m.below,hn.kp⟩
theorem Ct.up {fn:Nat} {b:Nat} {f:Mach->Int->Mach} (hF:Fb F N) (h:CI F N c vco vln vsm w q) (ht:q.s.M.clock<=tt/\tt<=q.s.M.clock+64)
 (hc:∀ tk,Bd F w q.s.M tk->q.s.M.clock<=tt/\tt<=q.s.M.clock+64->Calls Tryz.prog fn #[.int .i64 tt,pt b 0] w λe w'=>e = .returned (.tuple #[])/\Bd F w' (f q.s.M tt) tk/\Bt F w w') :
 Calls Tryz.prog fn #[.int .i64 tt,pt b 0] w λe w'=>e = .returned (.tuple #[])/\CI F N c vco vln vsm w' { q with s:=⟨f q.s.M tt,q.s.n,q.s.l⟩ }/\Below F.B w w'/\Kp N c w w':=by
 obtain ⟨v,hB⟩:=h.i.bd
 refine (hc _ hB ht).mono ?_
 rintro en w' ⟨rfl,hB',hT⟩
 exact ⟨rfl,h.mach hF hB' hT⟩
theorem Ct.eventsOf (hc:w.cell? ⟨c,0,none⟩=some (pt F.g 0)):Calls Tryz.prog 56 #[pt c 0] w λen w'=>(∃ b1 b2 b3,en = .returned (.slice (some ⟨b3,0,none⟩) 4 4)/\EvB F c b1 b2 b3 w'/\w.heap.size<=b1/\w.heap.size<=b2/\w.heap.size<=b3)/\Below w.heap.size w w':=by
 have hz:=World.block_lt_of_cell? w _ hc
 go_enter Tryz.func56,Tryz.ntmps56
 go_wp2
 go_ret
 exact ⟨⟨w.heap.size,w.heap.size+1,w.heap.size+1+1,rfl,⟨(three w _ _ _).1,(three w _ _ _).2.1,(three w _ _ _).2.2⟩,by omega,by omega,by omega⟩,stA (stA (stA (st0 w) _) _) _⟩
theorem Ct.partsOf (hc:w.cell? ⟨c,0,none⟩=some (pt F.g 0)):Calls Tryz.prog 57 #[pt c 0] w λen w'=>(∃ b1 b2 b3,en = .returned (.slice (some ⟨b3,0,none⟩) 5 5)/\PtB F c b1 b2 b3 w'/\w.heap.size<=b1/\w.heap.size<=b2/\w.heap.size<=b3)/\Below w.heap.size w w':=by
 have hz:=World.block_lt_of_cell? w _ hc
 go_enter Tryz.func57,Tryz.ntmps57
 go_wp2
 go_ret
 exact ⟨⟨w.heap.size,w.heap.size+1,w.heap.size+1+1,rfl,⟨(three w _ _ _).1,(three w _ _ _).2.1,(three w _ _ _).2.2⟩,by omega,by omega,by omega⟩,stA (stA (stA (st0 w) _) _) _⟩
theorem PtB.over (h:PtB F c b4 b5 b6 w) (o:Obj):PtB F c b4 b5 b6 (w.alloc o) :=
 ⟨((stA (st0 w) o).block _ (Array.getElem?_eq_some_iff.1 h.x1).1).trans h.x1,((stA (st0 w) o).block _ (Array.getElem?_eq_some_iff.1 h.x2).1).trans h.x2,((stA (st0 w) o).block _ (Array.getElem?_eq_some_iff.1 h.x3).1).trans h.x3⟩
theorem Ct.newRunner (hc:w.cell? ⟨c,0,none⟩=some (pt F.g 0)) (hN:N<=w.heap.size) (e:Int):Calls Tryz.prog 31 #[pt c 0,.int .i64 e] w λen w'=>(∃ R,en = .returned (pt R.r 0)/\RnB F N c e R w')/\Below w.heap.size w w':=by
 have hz:=World.block_lt_of_cell? w _ hc
 have HC:=hid hc
 have HN:=hid hN
 clear hc hN
 go_enter Tryz.func31,Tryz.ntmps31
 go_wp2_with (first
  | (go_at_call 57;refine (Ct.partsOf (F:=F) (c:=c) (HC1.out)).mono ?_;rintro en w2 ⟨⟨b4,b5,b6,rfl,hp,p1,p2,p3⟩,hb2⟩;have HP:=hid hp;have HB2:=hid hb2;have HPZ:=hid (show w1.heap.size<=b4/\w1.heap.size<=b5/\w1.heap.size<=b6 from ⟨p1,p2,p3⟩);clear hp hb2 p1 p2 p3)
  | (go_at_call 56;refine (Ct.eventsOf (F:=F) (c:=c) HC.out).mono ?_;rintro en w1 ⟨⟨b1,b2,b3,rfl,he,p1,p2,p3⟩,hb1⟩;have HE:=hid he;have HB1:=hid hb1;have HC1:=hid ((hb1.cell (p:=⟨c,0,none⟩) hz).trans HC.out);have HEZ:=hid (show w.heap.size<=b1/\w.heap.size<=b2/\w.heap.size<=b3 from ⟨p1,p2,p3⟩);clear he hb1 p1 p2 p3))
 go_ret
 have z1:=HB1.out.size
 have z2:=HB2.out.size
 obtain ⟨y1,y2,y3⟩:=HEZ.out
 obtain ⟨y4,y5,y6⟩:=HPZ.out
 have hN:=HN.out
 have hb:Below w.heap.size w w2:=stp HB1.out HB2.out
 exact ⟨⟨⟨w2.heap.size,b1,b2,b3,b4,b5,b6⟩,rfl,⟨⟨by dsimp only;omega,by dsimp only;omega,by dsimp only;omega,by dsimp only;omega,by dsimp only;omega,by dsimp only;omega,by dsimp only;omega⟩,⟨by dsimp only;omega,by dsimp only;omega,by dsimp only;omega,by dsimp only;omega,by dsimp only;omega,by dsimp only;omega,by dsimp only;omega⟩,heap_alloc_new w2 _,(HE.out.kept HB2.out).kept (stA (st0 w2) _),HP.out.over _⟩⟩,stA hb _⟩
theorem Ct.next (hF:Fb F N) (h:CI F N c vco vln vsm w k) (hR:RnB F N c e R w):Calls Tryz.prog 58 #[pt R.r 0] w λen w'=>en = .returned (.int .i64 (k.nxtG e))/\Below w.heap.size w w':=by
 have r1:=hR.rc 1 _ rfl
 have r2:=hR.rc 2 _ rfl
 have rz:=hR.z
 have H:=hid h
 have HR:=hid hR
 have HF:=hid hF
 clear h hR hF
 go_enter Tryz.func58,Tryz.ntmps58
 go_wp2
 clear r1 r2 rz
 go_loopw [3,15] (λt i wr=>Below w.heap.size w wr/\((i = .int .i64 0/\t = .int .i64 e) \/ (i = .int .i64 1/\t = .int .i64 (min e k.nxP)) \/ (i = .int .i64 2/\t = .int .i64 (min e (min k.nxP (k.s.M.clock+k.s.M.b.tol)))) \/ (i = .int .i64 3/\t = .int .i64 (min e (min k.nxP (min (k.s.M.clock+k.s.M.b.tol) k.s.M.nxM)))) \/ (i = .int .i64 4/\t = .int .i64 (k.nxtG e)))) (λ_ i _=>4-(intOf i).toNat)
 case atStart=>exact ⟨st0 w,Or.inl ⟨rfl,rfl⟩⟩
 case round =>
  obtain ⟨hb,hi⟩:=hrel
  have HB:=hid hb
  have hc:=H.out.keep HF.out hb
  have hr:=HR.out.kp (Kp.of hb)
  obtain ⟨tv,hBd⟩:=hc.i.bd
  have HC:=hid hc
  have HBD:=hid hBd
  have c1:=hid (zaP hr.ev.x1 0 _ rfl)
  have c2:=hid (zaP hr.ev.x2 0 _ rfl)
  have e0:=zaP hr.ev.x3 0 _ rfl
  have e1:=zaP hr.ev.x3 1 _ rfl
  have e2:=zaP hr.ev.x3 2 _ rfl
  have e3:=zaP hr.ev.x3 3 _ rfl
  have ez:=(Array.getElem?_eq_some_iff.1 hr.ev.x3).1
  clear hb hc hr hBd
  rcases hi with ⟨rfl,rfl⟩|⟨rfl,rfl⟩|⟨rfl,rfl⟩|⟨rfl,rfl⟩|⟨rfl,rfl⟩
  ·go_wp2_with (go_at_call 94;refine (Ct.ev1 HC.out c1.out).mono ?_;rintro en w1 ⟨rfl,hb1⟩)
   exact ⟨⟨stp HB.out hb1,Or.inr (Or.inl ⟨rfl,rfl⟩)⟩,by decide⟩
  ·go_wp2_with (go_at_call 96;refine (Ct.ev2 HBD.out c2.out).mono ?_;rintro en w1 ⟨rfl,hb1⟩)
   exact ⟨⟨stp HB.out hb1,Or.inr (Or.inr (Or.inl ⟨rfl,rfl⟩))⟩,by decide⟩
  ·go_wp2_with (go_at_call 98;refine (Ct.ev3 HBD.out c2.out).mono ?_;rintro en w1 ⟨rfl,hb1⟩)
   exact ⟨⟨stp HB.out hb1,Or.inr (Or.inr (Or.inr (Or.inl ⟨rfl,rfl⟩)))⟩,by decide⟩
  ·go_wp2_with (go_at_call 100;refine (Ct.ev4 HBD.out c2.out).mono ?_;rintro en w1 ⟨rfl,hb1⟩)
   exact ⟨⟨stp HB.out hb1,Or.inr (Or.inr (Or.inr (Or.inr ⟨rfl,congrArg (Value.int .i64) (by unfold Cs.nxtG;omega)⟩)))⟩,by decide⟩
  ·go_wp2
   go_ret
   exact ⟨rfl,HB.out⟩
theorem Ct.pt5 {b:Nat} (hF:Fb F N) (h:CI F N c vco vln vsm w k) (hb:w.cell? ⟨b,0,none⟩=some (pt c 0)) (hl:k.sm.length<=90000) (ht:k.s.M.clock+1<=tt/\tt<=k.s.M.clock+64):Calls Tryz.prog 108 #[.int .i64 tt,pt b 0] w λe w'=>e = .returned (.tuple #[])/\(∃ vsm',CI F N c vco vln vsm' w' { k with s:=⟨k.s.M.cS tt,k.s.n,k.s.l⟩,sm:=k.sm++k.s.M.smp (tt-k.s.M.clock).toNat }/\Below F.B w w')/\Kp N c w w':=by
 have hbz:=World.block_lt_of_cell? w _ hb
 have hs:=Ct.soundTo hF h hl ht
 have HS:=hid hs
 clear hF h hl ht hs
 go_enter Tryz.func108,Tryz.ntmps108
 go_wp2_with (go_at_call 109;refine HS.out.mono ?_;rintro e w1 ⟨rfl,h1,h2⟩)
 go_end0
 exact ⟨rfl,h1,h2⟩
def Cs.stg (q:Cs) (M':Mach):Cs:={ q with s:=⟨M',q.s.n,q.s.l⟩ }
theorem Ct.event (hF:Fb F N) (h:CI F N c vco vln vsm w k) (hR:RnB F N c e R w) (h1:k.ln.length<=90000) (h2:k.sm.length<=80000) (h3:k.s.l.length<=1000000) (he:k.s.M.clock<e) (hE:e<=200000) :
 Calls Tryz.prog 33 #[pt R.r 0] w λen w'=>en = .returned (.tuple #[])/\(∃ vco' vln' vsm',CI F N c vco' vln' vsm' w' (k.event e))/\Below F.B w w'/\RnB F N c e R w'/\k.now.s.M.fit/\k.s.M.clock<(k.event e).s.M.clock/\(k.event e).s.M.clock<=e:=by
 have r0:=hR.rc 0 _ rfl
 have rz:=hR.z
 obtain ⟨q,hq⟩:∃ q,q=k.now:=⟨_,rfl⟩
 have hnow:=Lk.nowK hF h (by omega) (by omega) h3
 rw [<- hq] at hnow
 have HNW:=hid hnow
 have HQ:=hid hq
 have HR:=hid hR
 have HF:=hid hF
 have HSM:Hid (q.sm.length<=80001):=hid (by
  rw [hq]
  show (k.sm++(k.s.M.pressed k.co).sample).length<=80001
  have:=zdB (k.s.M.pressed k.co)
  rw [List.length_append];omega)
 have hck:q.s.M.clock=k.s.M.clock:=by rw [hq];exact zbp k
 have HCK:=hid hck
 have HE:=hid he
 have HE2:=hid hE
 clear hF h hR h1 h2 h3 he hE hnow hq hck
 go_enter Tryz.func33,Tryz.ntmps33
 go_upto_region 1 with (go_at_call 35;refine HNW.out.mono ?_;rintro en w1 ⟨rfl,⟨u1,u2,u3,hc1,hb1⟩,hk1⟩;have HC1:=hid hc1;have HB1:=hid hb1;have hr1:=HR.out.kp hk1;have HR1:=hid hr1;clear hb1 hk1)
 have hfit:q.s.M.fit:=by obtain ⟨tv,hBd⟩:=hc1.i.bd;exact hBd.fit
 have hnx:q.s.M.clock<q.nxtG e/\q.nxtG e<=e/\q.nxtG e<=q.s.M.clock+64:=by
  rw [HQ.out] at hfit ⊢
  exact znX (by rw [zbp];exact HE.out) HE2.out hfit.b hfit.tc.1
 obtain ⟨tt,hto⟩:∃ tt,tt=q.nxtG e:=⟨_,rfl⟩
 have hN:=Ct.next HF.out hc1 hr1
 rw [<- hto] at hN hnx
 have HN:=hid hN
 have HT:Hid (q.s.M.clock<=tt/\tt<=q.s.M.clock+64):=hid (by omega)
 have HNX:=hid hnx
 have HTO:=hid hto
 have HFI:=hid hfit
 clear r0 rz hc1 hr1 hnx hto hN hfit HNW HR
 go_upto_region 2 with (go_at_call 58;refine HN.out.mono ?_;rintro en w2 ⟨rfl,hb2⟩;have HC2:=hid (HC1.out.keep HF.out hb2);have HB2:=hid (HB1.out.trans (hb2.mono (HC1.out.i.big)));have hr2:=HR1.out.kp (Kp.of hb2);have HR2:=hid hr2;clear hb2)
 have r3:=hr2.rc 3 _ rfl
 have rz:=hr2.z
 clear hr2 HN HC1 HR1 HB1
 go_wp2
 clear r3 rz
 go_loopw [17] (λi wr=>Below F.B w wr/\RnB F N c e R wr/\((i = .int .i64 0/\CI F N c u1 u2 u3 wr q) \/ (i = .int .i64 1/\CI F N c u1 u2 u3 wr (q.stg (q.s.M.cA tt))) \/ (i = .int .i64 2/\CI F N c u1 u2 u3 wr (q.stg ((q.s.M.cA tt).cB tt))) \/ (i = .int .i64 3/\CI F N c u1 u2 u3 wr (q.stg (((q.s.M.cA tt).cB tt).cT tt))) \/ (i = .int .i64 4/\CI F N c u1 u2 u3 wr (q.stg ((((q.s.M.cA tt).cB tt).cT tt).cE tt))) \/ (i = .int .i64 5 /\ ∃ u4,CI F N c u1 u2 u4 wr { q with s:=⟨((((q.s.M.cA tt).cB tt).cT tt).cE tt).cS tt,q.s.n,q.s.l⟩,sm:=q.sm++q.s.M.smp (tt-q.s.M.clock).toNat }))) (λi _=>5-(intOf i).toNat)
 case atStart=>exact ⟨HB2.out,HR2.out,Or.inl ⟨rfl,HC2.out⟩⟩
 case round =>
  obtain ⟨hb,hr,hi⟩:=hrel
  have HB:=hid hb
  have HRR:=hid hr
  have c4:=hid (zaP hr.pb.x1 0 _ rfl)
  have c5:=hid (zaP hr.pb.x2 0 _ rfl)
  have e0:=zaP hr.pb.x3 0 _ rfl
  have e1:=zaP hr.pb.x3 1 _ rfl
  have e2:=zaP hr.pb.x3 2 _ rfl
  have e3:=zaP hr.pb.x3 3 _ rfl
  have e4:=zaP hr.pb.x3 4 _ rfl
  have ez:=(Array.getElem?_eq_some_iff.1 hr.pb.x3).1
  have r0:=hr.rc 0 _ rfl
  have rz:=hr.z
  clear hb hr HB2 HR2 HC2
  rcases hi with ⟨rfl,hc⟩|⟨rfl,hc⟩|⟨rfl,hc⟩|⟨rfl,hc⟩|⟨rfl,hc⟩|⟨rfl,u4,hc⟩
  ·have HC:=hid hc
   clear hc
   go_wp2_with (go_at_call 102;refine (Ct.up (f:=Mach.cA) HF.out HC.out HT.out (λtk hB ht=>Ct.pt1 hB c5.out ht)).mono ?_;rintro en w3 ⟨rfl,hc',hb',hk'⟩)
   exact ⟨⟨HB.out.trans hb',HRR.out.kp hk',Or.inr (Or.inl ⟨rfl,hc'⟩)⟩,by decide⟩
  ·have HC:=hid hc
   clear hc
   go_wp2_with (go_at_call 104;refine (Ct.up (f:=Mach.cB) HF.out HC.out HT.out (λtk hB ht=>Ct.pt2 hB c5.out ht)).mono ?_;rintro en w3 ⟨rfl,hc',hb',hk'⟩)
   exact ⟨⟨HB.out.trans hb',HRR.out.kp hk',Or.inr (Or.inr (Or.inl ⟨rfl,hc'⟩))⟩,by decide⟩
  ·have HC:=hid hc
   clear hc
   go_wp2_with (go_at_call 105;refine (Ct.up (f:=Mach.cT) HF.out HC.out HT.out (λtk hB ht=>Ct.pt3 hB c5.out ht)).mono ?_;rintro en w3 ⟨rfl,hc',hb',hk'⟩)
   exact ⟨⟨HB.out.trans hb',HRR.out.kp hk',Or.inr (Or.inr (Or.inr (Or.inl ⟨rfl,hc'⟩)))⟩,by decide⟩
  ·have HC:=hid hc
   clear hc
   go_wp2_with (go_at_call 107;refine (Ct.up (f:=Mach.cE) HF.out HC.out HT.out (λtk hB ht=>Ct.pt4 hB c5.out ht)).mono ?_;rintro en w3 ⟨rfl,hc',hb',hk'⟩)
   exact ⟨⟨HB.out.trans hb',HRR.out.kp hk',Or.inr (Or.inr (Or.inr (Or.inr (Or.inl ⟨rfl,hc'⟩))))⟩,by decide⟩
  ·have HC:=hid hc
   clear hc
   have h5:=Ct.pt5 (k:=q.stg ((((q.s.M.cA tt).cB tt).cT tt).cE tt)) (tt:=tt) HF.out HC.out c4.out (Nat.le_trans HSM.out (by decide)) (by have:=HNX.out;show q.s.M.clock+1<=tt/\tt<=q.s.M.clock+64;omega)
   have H5:=hid h5
   clear h5
   go_wp2_with (go_at_call 108;refine H5.out.mono ?_;rintro en w3 ⟨rfl,⟨u4,hc',hb'⟩,hk'⟩)
   exact ⟨⟨HB.out.trans hb',HRR.out.kp hk',Or.inr (Or.inr (Or.inr (Or.inr (Or.inr ⟨rfl,u4,hc'⟩))))⟩,by decide⟩
  ·have k0:=hc.cb.bx.at 0 _ rfl
   have kz:=hc.cb.z
   obtain ⟨tv,hBd⟩:=hc.i.bd
   have mz:=hBd.bx.z
   have mf:=hBd.bx.f 72
   have m72:=hBd.at 72 _ rfl
   have HC:=hid hc
   have HBD:=hid hBd
   clear hc hBd e0 e1 e2 e3 e4 ez
   go_wp2
   go_end0
   have hf:=zpl (M:=((((q.s.M.cA tt).cB tt).cT tt).cE tt).cS tt) (tt:=tt) HBD.out.fit HT.out.1 (by have:=HNX.out.2.1;have:=HE2.out;omega)
   obtain ⟨g1,g2,g3⟩:=HC.out.mach (M':=(((((q.s.M.cA tt).cB tt).cT tt).cE tt).cS tt).cC tt) HF.out (HBD.out.put (tk':=⟨q.s.n,q.s.l,tv⟩) 72 (.int .i64 tt) (by omega) rfl ⟨rfl,rfl,rfl,rfl,rfl⟩ hf) (Bt.set HBD.out.nd (Bt.refl F wr) 72 _)
   have hev:k.event e=q.latT tt:=by unfold Cs.event;rw [<- HQ.out,<- HTO.out]
   rw [zh2] at g1
   have g4:(k.event e).s.M.clock=tt:=by rw [hev];rfl
   refine ⟨rfl,⟨u1,u2,u4,?_⟩,HB.out.trans g2,HRR.out.kp g3,by rw [<- HQ.out];exact HFI.out,by rw [g4,<- HCK.out];exact HNX.out.1,by rw [g4];exact HNX.out.2.1⟩
   rw [hev]
   exact g1
end
def ctAt (b:Nat) (w:World):Int:=match w.cell? ⟨b,72,none⟩ with
 | some (.int _ c)=>c
 | _=>0
theorem zkz {F:Fx} {w:World} {M:Mach} {tk:Tk} (h:Bd F w M tk):ctAt F.g w=M.clock:=by
 unfold ctAt
 rw [h.at 72 (.int .i64 M.clock) rfl]
section
variable {F : Fx} {N c : Nat} {vco vln vsm : Value} {w : World} {k : Cs} {e : Int} {R : Rn}
theorem Ct.over (h:CI F N c vco vln vsm w k) (hR:RnB F N c e R w):Calls Tryz.prog 32 #[pt R.r 0] w λen w'=>en = .returned (.bool (decide (e<=k.s.M.clock)))/\Below w.heap.size w w':=by
 have r0:=hR.rc 0 _ rfl
 have r1:=hR.rc 1 _ rfl
 have rz:=hR.z
 have k0:=h.cb.bx.at 0 _ rfl
 have kz:=h.cb.z
 obtain ⟨tv,hBd⟩:=h.i.bd
 have m72:=hBd.at 72 (.int .i64 k.s.M.clock) rfl
 have mz:=hBd.bx.z
 clear h hR hBd
 by_cases hle:e<=k.s.M.clock
 ·rw [decide_eq_true hle]
  go_enter Tryz.func32,Tryz.ntmps32
  go_wp2
  go_quiet (fail)
  go_wp2
  go_ret
  exact ⟨rfl,Bl.drewN (st0 w) nq⟩
 ·rw [decide_eq_false hle]
  have hlt:k.s.M.clock<e:=by omega
  go_enter Tryz.func32,Tryz.ntmps32
  go_wp2
  go_quiet (fail)
  go_wp2
  go_ret
  exact ⟨congrArg Ending.returned (congrArg Value.bool (decide_eq_false (by omega))),Bl.drewN (st0 w) nq⟩
theorem Ct.run_gen (M:Mach) (S:Sl) (v:Value) (l:List Inp) (n:Nat) (w:World) (P:Cs->Prop) (hs:SlAt w S M) (hsh:shapesAt w) (hin:InpAt w.heap.size w v l) (hd:∀ x∈l,0<=x.d/\x.d<=255) (hf:M.fit) (hf2:M.b.f<=20000) (hc:chkIn l M.clock=0) (hn:n<=20000/\M.clock+n<=200000)
 (hP0:P ⟨⟨M,0,[]⟩,l,[],[]⟩) (hPs:∀ k,P k->k.s.M.clock<M.clock+n->k.now.s.M.fit->P (k.event (M.clock+n))) (hPb:∀ (F:Fx) (N:Nat),Fb F N->∀ k,P k->k.ln.length<=90000/\k.sm.length<=80000/\k.s.l.length<=1000000) :
 Calls Tryz.prog 10 #[.agg (machL M S).toArray,v,.int .i64 n] w λe w'=>∃ (F:Fx) (N:Nat) (vln vsm vw:Value) (k:Cs),P k /\ ¬ k.s.M.clock<M.clock+n/\e = .returned (.tuple #[.agg (machL k.s.M F.S).toArray,.agg #[vln,vsm,vw],.int .i64 0])/\Told F N k vln vsm vw w'/\w.heap.size<=F.B/\F.B<=N/\SlNew F.B F.S/\Below w.heap.size w w':=by
 have hBm:=Bx.new w (machL M S) 41 (b:=w.heap.size) rfl
 have hW:Below w.heap.size w (((w.alloc (.cells (machL M S).toArray 41)).alloc (.cells (machL zeroM nilS).toArray 41)).alloc (.cells #[.slice none 0 0,.slice none 0 0,.slice none 0 0] 50)):=stA (stA (stA (st0 w) _) _) _
 have HRR:Hid (RR w (machL zeroM nilS) [.slice none 0 0,.slice none 0 0,.slice none 0 0] (((w.alloc (.cells (machL M S).toArray 41)).alloc (.cells (machL zeroM nilS).toArray 41)).alloc (.cells #[.slice none 0 0,.slice none 0 0,.slice none 0 0] 50))) :=
  ⟨hW,(Bx.new (w.alloc (.cells (machL M S).toArray 41)) (machL zeroM nilS) 41 (b:=w.heap.size+1) (by simp)).over _,Bx.new ((w.alloc (.cells (machL M S).toArray 41)).alloc (.cells (machL zeroM nilS).toArray 41)) [.slice none 0 0,.slice none 0 0,.slice none 0 0] 50 (b:=w.heap.size+2) (by simp)⟩
 have HBM:=hid ((hBm.over (.cells (machL zeroM nilS).toArray 41)).over (.cells #[.slice none 0 0,.slice none 0 0,.slice none 0 0] 50))
 have HS:=hid (hs.kept hW)
 have HSH:=hid (zbE hsh (hW.block _ (zf3 hsh)))
 have HIN:=hid ((hin.kept hW).mono hW.size)
 have HD:=hid hd
 have HF:=hid hf
 have HF2:=hid hf2
 have HC:=hid hc
 have HN:=hid hn
 have HP0:=hid hP0
 have HPS:=hid hPs
 have HPB:=hid hPb
 have hcw:IntKind.i64.wrap (M.clock+n)=M.clock+n:=by have:=hf.clock;rw [IntKind.wrap_i64];omega
 clear hs hsh hin hd hf hf2 hc hn hBm hW hP0 hPs hPb
 go_enter Tryz.func10,Tryz.ntmps10
 go_wp2_with (first
  | (refine wpList_load_mid rfl 41 _ rfl w.heap.size 0 rfl (machL M S) _ HBM.out.c Tryz.underlying41 rfl zad ?_)
  | (go_at_call 30;refine (zhY M S v l n _ HS.out HSH.out HIN.out HD.out HF.out HF2.out HC.out ⟨by omega,by have:=HN.out;omega,HN.out.2⟩).mono ?_;rintro e w1 ⟨F,N,c,rfl,hF,hFB,hmr,hCI,hb1⟩;have HFF:=hid hF;have HFB:=hid hFB;have HMR:=hid hmr;have HCI:=hid hCI;have HR1:=hid (HRR.out.kept hb1);have m72:=(HBM.out.kept hb1).at 72 (.int .i64 M.clock) rfl;have mmz:=(HBM.out.kept hb1).z;clear hF hFB hmr hCI hb1)
  | (go_at_call 31;refine (Ct.newRunner (F:=F) (N:=N) (HCI.out.cb.bx.at 0 _ rfl) HCI.out.i.N (M.clock+n)).mono ?_;rintro e wn ⟨⟨R,rfl,hR⟩,hbn⟩;have HRB:=hid hR;have HCI0:=hid (HCI.out.keep HFF.out hbn);have HR0:=hid (HR1.out.kept hbn);clear hR hbn))
 have hFB3:w.heap.size+3<=F.B:=by have:=HFB.out;simp at this;omega
 have HFB3:=hid hFB3
 clear hFB3 HCI HBM HRR HFB HSH HIN HS HR1 m72 mmz
 go_loopw [] (λwr=>∃ (k:Cs) (vco vln vsm:Value),P k/\CI F N c vco vln vsm wr k/\RnB F N c (M.clock+n) R wr/\RR w (machL zeroM nilS) [.slice none 0 0,.slice none 0 0,.slice none 0 0] wr) (λwr=>(M.clock+n-ctAt F.g wr).toNat)
 case atStart=>exact ⟨_,v,_,_,HP0.out,HCI0.out,HRB.out,HR0.out⟩
 case round =>
  obtain ⟨k,vco,vln,vsm,hP,hX,hRB,hR⟩:=hrel
  clear HCI0 HRB HR0
  have hov:=Ct.over hX hRB
  have hat:ctAt F.g wr=k.s.M.clock:=by obtain ⟨vv,hBd⟩:=hX.i.bd;exact zkz hBd
  have HAT:=hid hat
  have HP:=hid hP
  have HX0:=hid hX
  have HRB0:=hid hRB
  have HR1:=hid hR
  clear hP hX hRB hR hat
  by_cases hlt:k.s.M.clock<M.clock+n
  ·as_aux_lemma =>
   rw [decide_eq_false (by omega)] at hov
   have HOV:=hid hov
   have HLT:=hid hlt
   clear hov hlt
   obtain ⟨p1,p2,p3⟩:=HPB.out _ _ HFF.out k HP.out
   have HPP:=hid (show k.ln.length<=90000/\k.sm.length<=80000/\k.s.l.length<=1000000 from ⟨p1,p2,p3⟩)
   clear p1 p2 p3
   go_wp2_with (first
    | (go_at_call 32;refine HOV.out.mono ?_;rintro e wq ⟨rfl,hbq⟩;have HX:=hid (HX0.out.keep HFF.out hbq);have HRB1:=hid (HRB0.out.kp (Kp.of hbq));have HR2:=hid (HR1.out.kept hbq);clear hbq)
    | (go_at_call 33;refine (Ct.event HFF.out HX.out HRB1.out HPP.out.1 HPP.out.2.1 HPP.out.2.2 HLT.out HN.out.2).mono ?_;rintro e w2 ⟨rfl,⟨u1,u2,u3,hX2⟩,hb2,hr2,hf2,hc1,hc2⟩;have HX2:=hid hX2;have HRB2:=hid hr2;have HR3:=hid (HR2.out.far HFB3.out hb2);have HFI:=hid hf2;have HC1:=hid hc1;clear hX2 hb2 hr2 hf2 hc1 hc2))
   have hat2:ctAt F.g w2=(k.event (M.clock+n)).s.M.clock:=by obtain ⟨vv,hBd⟩:=HX2.out.i.bd;exact zkz hBd
   refine ⟨⟨k.event (M.clock+n),u1,u2,u3,HPS.out k HP.out HLT.out HFI.out,HX2.out,HRB2.out,HR3.out⟩,?_⟩
   have h1:=HC1.out
   have h2:=HLT.out
   have h3:=HAT.out
   rw [hat2,h3]
   omega
  ·as_aux_lemma =>
   rw [decide_eq_true (by omega)] at hov
   have HOV:=hid hov
   have HGE:=hid hlt
   clear hov
   go_upto_region 7 with (go_at_call 32;refine HOV.out.mono ?_;rintro e wq ⟨rfl,hbq⟩;have HX:=hid (HX0.out.keep HFF.out hbq);have HR:=hid (HR1.out.kept hbq);clear hbq)
   clear HX0 HRB0 HR1 HOV
   obtain ⟨X,hX⟩:∃ X,X=k.s.M:=⟨_,rfl⟩
   have hdn:=Lk.done HFF.out HX.out
   rw [<- hX] at hdn
   have HDN:=hid hdn
   have HNW:Hid (SlNew F.B F.S/\F.B<=N):=hid (by obtain ⟨vv,hBd⟩:=HX.out.i.bd;exact ⟨hBd.slNew HMR.out,HX.out.bigN HFF.out⟩)
   obtain ⟨a2,n2,c2,e2⟩:=za5 HX.out.ln
   obtain ⟨a3,n3,c3,e3⟩:=za5 HX.out.sm
   have HXE:=hid hX
   clear hdn hX hlt
   subst e2 e3
   have HSI:Hid F.S.isSl:=hid (by obtain ⟨vv,hBd⟩:=HX.out.i.bd;exact hBd.isSl)
   go_upto_region 8 with (first
    | (go_at_call 34;refine HDN.out.mono ?_;rintro e w2 ⟨vw,rfl,hT2,hb2⟩;obtain ⟨a4,n4,c4,e4⟩:=za5 hT2.ws;subst e4;have HT2:=hid hT2;have HR2:=hid (HR.out.far HFB3.out hb2);clear hT2 hb2)
    | (refine wpList_store_mid rfl 41 _ _ rfl w2.heap.size 0 (machL X F.S).toArray rfl rfl (((Bx.new w2 (machL zeroM nilS) 41 (b:=w2.heap.size) rfl).over (.cells #[.slice none 0 0,.slice none 0 0,.slice none 0 0] 50)).there 0 75 (by rw [zah];omega)) zad (zaC _ _ HSI.out) ?_
       refine Pl.cutL (EW F N k X (.slice a2 n2 c2) (.slice a3 n3 c3) (.slice a4 n4 c4) w w2.heap.size (machL zeroM nilS) [.slice none 0 0,.slice none 0 0,.slice none 0 0]) (EW.mk' HR2.out HT2.out) ?_
       intro Z hZ
       have HZ:=hid hZ
       have y0:=hZ.o2.at 0 _ rfl
       have y1:=hZ.o2.at 1 _ rfl
       have y2:=hZ.o2.at 2 _ rfl
       have yf:=hZ.o2.f
       have yz:=hZ.o2.z
       clear hZ))
   refine Pl.cutW (FW F N k X (.slice a2 n2 c2) (.slice a3 n3 c3) (.slice a4 n4 c4) w w2.heap.size (machL zeroM nilS) [.slice none 0 0,.slice none 0 0,.slice none 0 0]) (EW.fw HZ.out HNW.out.1 ⟨HFB3.out,HNW.out.2⟩) ?_
   intro Y1 hY1
   have HY:=hid (hY1.kept (st0 Y1).drew)
   obtain ⟨D,hD⟩:∃ D,D=w2.heap.size:=⟨_,rfl⟩
   clear hY1 HZ y0 y1 y2 yf yz HR2 HT2 HR HX HDN
   refine wp_region_held_drew (S:=λw'=>w'.rangeAt w2.heap.size 0 (machL X F.S)/\w'.rangeAt (w2.heap.size+1) 0 [.slice a2 n2 c2,.slice a3 n3 c3,.slice a4 n4 c4]) (by kernel_rfl) (HY.out.s) ?_
   intro hS
   refine wpAnyH_take (i:=0) (oi:=⟨some 42,_,_,_,_,none⟩) (v:=.agg (machL X F.S).toArray) rfl (by kernel_rfl) (by kernel_rfl) (by kernel_rfl) (λ_ _ _ h=>h) (Or.inl ⟨by rfl,λw' hSw=>zai 41 _ rfl w2.heap.size 0 rfl (machL X F.S) _ hSw.1 Tryz.underlying41 rfl zad⟩) hS ?_
   simp only [Act.put,xA,xB,xC]
   refine wpAnyH_take (i:=1) (oi:=⟨some 43,_,_,_,_,none⟩) (v:=.agg ([.slice a2 n2 c2,.slice a3 n3 c3,.slice a4 n4 c4]).toArray) rfl (by kernel_rfl) (by kernel_rfl) (by kernel_rfl) (λ_ _ _ h=>h) (Or.inl ⟨by rfl,λw' hSw=>zai 50 _ rfl (w2.heap.size+1) 0 rfl ([.slice a2 n2 c2,.slice a3 n3 c3,.slice a4 n4 c4]) _ hSw.2 Tryz.underlying50 rfl zaO⟩) hS ?_
   simp only [Act.put,xA,xB,xC]
   have HY1:=hid HY.out.put1
   refine za0 (i:=2) (op:=⟨none,_,_,_,_,none⟩) (by kernel_rfl) rfl rfl 41 _ _ rfl (w.heap.size+1) 0 (machL X F.S).toArray rfl rfl (HY.out.b1.there 0 75 (by rw [zah];omega)) zad (zaC _ _ HSI.out) HY1.out.s ?_
   have HY2:=hid HY1.out.put2
   have hth:=HY1.out.b2.there 0 3 (by simp)
   have hone:(([.slice a2 n2 c2,.slice a3 n3 c3,.slice a4 n4 c4]:List Value)).toArray.all (·.oneCell')=true:=by simp [Value.oneCell']
   have hss:=HY2.out.s
   clear hS
   refine za0 (i:=3) (op:=⟨none,_,_,_,_,none⟩) (by kernel_rfl) rfl rfl 50 _ _ rfl (w.heap.size+2) 0 #[.slice a2 n2 c2,.slice a3 n3 c3,.slice a4 n4 c4] rfl rfl hth zaO hone hss ?_
   have hS:=HY2.out.s
   refine tqH 4 ⟨some 8,_,_,_,_,none⟩ hS ?_
   simp only [Act.put,xA,xB,xC]
   refine wpAnyH_done (by kernel_rfl) ?_ _
   refine Pl.cutE (FW F N k X (.slice a2 n2 c2) (.slice a3 n3 c3) (.slice a4 n4 c4) w w2.heap.size (machL X F.S) [.slice a2 n2 c2,.slice a3 n3 c3,.slice a4 n4 c4]) HY2.out ?_
   intro V hV
   have HV:=hid hV
   clear hV HY HY1 HY2 hth hone hss hS
   go_wp2
   have hXk:=HXE.out
   refine bodyPost_ret (v:=.tuple #[.agg (machL X F.S).toArray,.agg #[.slice a2 n2 c2,.slice a3 n3 c3,.slice a4 n4 c4],.int .i64 0]) ?_ rfl ⟨F,N,_,_,_,k,HP.out,HGE.out,by rw [hXk],HV.out.told,by have:=HFB3.out;omega,HNW.out.2,HNW.out.1,HV.out.low⟩
   have l1:=run_loadVar_mid V (w.heap.size+1) 0 41 _ _ HV.out.b1.c Tryz.underlying41 rfl zad
   have l2:=run_loadVar_mid V (w.heap.size+2) 0 50 _ _ HV.out.b2.c Tryz.underlying50 rfl zaO
   simp only [results,Tryz.results10]
   simp
   show (Result.andThen (Sem.run Tryz.prog (loadVar 41 ⟨w.heap.size+1,0,none⟩) V) _)=_
   rw [l1]
   show (Result.andThen (Sem.run Tryz.prog (loadVar 50 ⟨w.heap.size+2,0,none⟩) V) _)=_
   rw [l2]
   rfl
end
theorem Ct.run_ok (M:Mach) (S:Sl) (v:Value) (l:List Inp) (n:Nat) (w:World) (hs:SlAt w S M) (hsh:shapesAt w) (hin:InpAt w.heap.size w v l) (hd:∀ x∈l,0<=x.d/\x.d<=255) (hf:M.fit) (hf2:M.b.f<=19900) (hc:chkIn l M.clock=0) (hn:n<=20000/\M.clock+n<=200000) :
 Calls Tryz.prog 10 #[.agg (machL M S).toArray,v,.int .i64 n] w λe w'=>∃ (F:Fx) (N:Nat) (vln vsm vw:Value),e = .returned (.tuple #[.agg (machL (Cs.clocks ⟨⟨M,0,[]⟩,l,[],[]⟩ n).s.M F.S).toArray,.agg #[vln,vsm,vw],.int .i64 0])/\Told F N (Cs.clocks ⟨⟨M,0,[]⟩,l,[],[]⟩ n) vln vsm vw w'/\w.heap.size<=F.B/\F.B<=N/\SlNew F.B F.S/\Below w.heap.size w w':=by
 have hb:BOk M.b.l M.b.a M.b.f:=⟨hf.b.l0,hf.b.l1,hf.b.a0,hf.b.a1,hf.b.f0,by omega⟩
 obtain ⟨k0,hk0⟩:∃ k0:Cs,k0=⟨⟨M,0,[]⟩,l,[],[]⟩:=⟨_,rfl⟩
 have h1:k0.s.M=M:=by rw [hk0]
 have h2:k0.s.l=[]/\k0.ln=[]/\k0.sm=[]:=by rw [hk0];exact ⟨rfl,rfl,rfl⟩
 refine (Ct.run_gen M S v l n w (Pok k0 n) hs hsh hin hd hf (by omega) hc hn (by rw [<- hk0];exact Pok.zero k0 n) (λk hP hlt hfit=>?_) (λF N hF k hP=>?_)).mono ?_
 ·rw [<- h1] at hlt ⊢
  exact hP.step (by rw [h1];exact hb) (by rw [h1];exact hf2) hn.1 (by rw [h1];exact hn.2) hlt hfit
 ·have:=hP.bd hF h2 hn.1
  omega
 ·rintro e w' ⟨F,N,vln,vsm,vw,k,hP,hge,rfl,hT,g1,g2,g3,g4⟩
  rw [<- h1] at hge
  have hl:=hP.fin hge
  rw [<- hk0]
  have e1:(k0.clocks n).ln=k.ln:=by simpa using hl.ln
  have e2:(k0.clocks n).sm=k.sm:=by simpa using hl.sm
  have e3:(k0.clocks n).s.l=k.s.l:=by simpa using hl.s.l
  exact ⟨F,N,vln,vsm,vw,by rw [hl.s.M],⟨by rw [hl.s.M];exact hT.sl,by rw [hl.s.M];exact hT.fit,by rw [e1];exact hT.ln,by rw [e2];exact hT.sm,by rw [e3];exact hT.ws⟩,g1,g2,g3,g4⟩
section
variable {w : World} {L1 L2 : List Value} {Y : World}
end
section
variable {l a f : Int}
end
theorem zf8 {w:World} {B z n:Nat} {t:TypeId} {v:Value} {xs:List Value} (h:w.ownsRow B t z v n xs) (h0:0<n):∃ g cap,v = .slice (some ⟨g,0,none⟩) n cap/\n<=cap/\g<w.heap.size /\ ∀ j x,xs[j]? = some x->w.cell? ⟨g,j,none⟩=some x:=by
 rcases h.2 with ⟨e0,e1⟩|⟨g,cap,cur,e0,hb,hg,hn,hm,hs,ht⟩
 ·omega
 ·refine ⟨g,cap,e0,hn,(Array.getElem?_eq_some_iff.1 hg).1,λj x hj=>?_⟩
  rw [<- ht] at hj
  have hjl:j<n*z:=by
   have:=(List.getElem?_eq_some_iff.1 hj).1
   rw [List.length_take] at this;omega
  rw [List.getElem?_take_of_lt hjl,Array.getElem?_toList] at hj
  unfold World.cell?
  simp [hg,hj]
end Go.Proofs.YtbennamieealbaaGreatDoor
