/-
  Parts of a proof, joined.
-/
import Derived.Test.YtbennamieealbaaGreatDoorZg06
import Derived.Test.YtbennamieealbaaGreatDoorZg07
import Derived.Test.YtbennamieealbaaGreatDoorZg05
set_option linter.unusedVariables false
set_option maxRecDepth 100000
set_option maxHeartbeats 1600000
namespace Go.Proofs.YtbennamieealbaaGreatDoor
open Go.ChangeShapes Go.WideShapes Go.ChangeAt Go.RowKit
def SlNw (B:Nat) (W:World) (v:Value) (l:List UInt8):Prop:=(v = .slice none 0 0/\l=[]) \/ ∃ b cap,v = .slice (some ⟨b,0,none⟩) l.length cap/\l.length<=cap/\B<=b/\Bx W b (bcs l)
theorem SlNw.move {B:Nat} {W w1:World} {v:Value} {l:List UInt8} {T:Nat->Prop} {N:Nat} (h:SlNw B W v l) (hm:Mv N T T W w1) (ht:∀ k,T k->k<B):SlNw B w1 v l:=by
 rcases h with h|⟨b,c,h1,h2,h3,h4⟩
 ·exact Or.inl h
 ·exact Or.inr ⟨b,c,h1,h2,h3,h4.same hm.size (hm.block b h4.z (λe=>by have:=ht b e;omega))⟩
theorem SlNw.kept {B:Nat} {W w1:World} {v:Value} {l:List UInt8} (h:SlNw B W v l) (hb:Below W.heap.size W w1):SlNw B w1 v l:=by
 rcases h with h|⟨b,c,h1,h2,h3,h4⟩
 ·exact Or.inl h
 ·exact Or.inr ⟨b,c,h1,h2,h3,h4.kept hb⟩
theorem SlNw.slice {B:Nat} {W:World} {v:Value} {l:List UInt8} (h:SlNw B W v l):sliceAt W v l:=by
 rcases h with ⟨rfl,rfl⟩|⟨b,c,h1,h2,h3,h4⟩
 ·exact Or.inl ⟨none,0,rfl,rfl⟩
 ·refine Or.inr ⟨b,0,c,h1,h2,h4.z,λj x hj=>?_⟩
  rw [Nat.zero_add]
  exact h4.at j _ (by simp [bcs,hj])
def LsAt (B:Nat) (W:World):List Ct->List Value->Prop
 | [],[]=>True
 | c::cs,v::vs=>(∃ l,c = .lst l/\SlNw B W v l)/\LsAt B W cs vs
 | _,_=>False
theorem LsAt.app {B:Nat} {W:World}:∀ {cs:List Ct} {vs:List Value} {l:List UInt8} {v:Value},LsAt B W cs vs->SlNw B W v l->LsAt B W (cs++[.lst l]) (vs++[v])
 | [],[],l,v,h,hv=>⟨⟨l,rfl,hv⟩,trivial⟩
 | c::cs,x::vs,l,v,h,hv=>⟨h.1,h.2.app hv⟩
 | [],x::vs,l,v,h,hv=>h.elim
 | c::cs,[],l,v,h,hv=>h.elim
theorem LsAt.move {B:Nat} {W w1:World} {T:Nat->Prop} {N:Nat} (hm:Mv N T T W w1) (ht:∀ k,T k->k<B):∀ {cs:List Ct} {vs:List Value},LsAt B W cs vs->LsAt B w1 cs vs
 | [],[],h=>h
 | c::cs,x::vs,⟨⟨l,e,hv⟩,h⟩=>⟨⟨l,e,hv.move hm ht⟩,h.move hm ht⟩
 | [],x::vs,h=>h.elim
 | c::cs,[],h=>h.elim
theorem LsAt.len {B:Nat} {W:World}:∀ {cs:List Ct} {vs:List Value},LsAt B W cs vs->vs.length=cs.length
 | [],[],h=>rfl
 | c::cs,x::vs,⟨_,h⟩=>by rw [List.length_cons,List.length_cons,h.len]
 | [],x::vs,h=>h.elim
 | c::cs,[],h=>h.elim
structure RL (N g B : Nat) (qs : List Pq) (j : Nat) (lj : List UInt8) (xs : List Ct) (vs : List Value) (W wr : World) : Prop where
 r:Rr N g lj wr
 mv:Mv N (Tq g qs) (Tq g qs) W wr
 kx:Kx W wr
 put:∀ b L,b≠g->Bx W b L->Bx wr b (upd b L (qs.take j) vs)
 len:xs.length=j
 ls:LsAt B wr xs vs
section
variable {N g k j B : Nat} {qs : List Pq} {q : Pq} {l lj l1 : List UInt8} {xs : List Ct} {vs : List Value} {W wr w1 : World}
theorem RL.zero (h:Rr N g l W):RL N g B qs 0 l [] [] W W:=⟨h,Mv.refl _ _ _,Kx.refl _,λb L _ hb=>hb,rfl,trivial⟩
theorem RL.there (h:RL N g B qs j lj xs vs W wr) (hq:Pq.at N g k j W q) (hm:Mv N (· = g) (· = g) wr w1):(∃ y,w1.cell? ⟨q.b,q.o,none⟩=some y)/\w1.frozen? ⟨q.b,q.o,none⟩=false/\q.b<w1.heap.size:=by
 obtain ⟨L,hL,ho⟩:=hq.bx
 have h1:=h.put q.b L hq.ng hL
 have h2:Bx w1 q.b (upd q.b L (qs.take j) vs):=h1.same hm.size (hm.block _ h1.z hq.ng)
 exact ⟨⟨_,h2.at q.o _ (List.getElem?_eq_getElem (by rw [zgi];exact ho))⟩,h2.f _,h2.z⟩
theorem RL.step (h:RL N g B qs j lj xs vs W wr) (hj:qs[j]? = some q) (hq:Pq.at N g k j W q) (hr:Rr N g l1 w1) (hm:Mv N (· = g) (· = g) wr w1) (hk:Kx wr w1) (hB:∀ k,Tq g qs k->k<B) {a:List UInt8} {v:Value} (hv:SlNw B w1 v a) :
 RL N g B qs (j+1) l1 (xs++[.lst a]) (vs++[v]) W (w1.setCell ⟨q.b,q.o,none⟩ v):=by
 have hqm:q∈qs:=List.mem_of_getElem? hj
 have hst:Mv N (Tq g qs) (Tq g qs) w1 (w1.setCell ⟨q.b,q.o,none⟩ v):=(Mv.refl N (Tq g qs) w1).setCell (p:=⟨q.b,q.o,none⟩) hq.lo (Or.inl (Or.inr ⟨q,hqm,rfl⟩)) _
 refine ⟨?_,?_,?_,λb L hb hL=>?_,by rw [List.length_append,h.len];rfl,?_⟩
 ·exact hr.move (T:=λk=>k=q.b) ((Mv.refl N (λk=>k=q.b) w1).setCell (p:=⟨q.b,q.o,none⟩) hq.lo (Or.inl rfl) _) (Ne.symm hq.ng)
 ·exact (h.mv.trans (hm.wide (λk e=>Or.inl e))).trans hst
 ·exact (h.kx.trans hk).trans (Kx.set _ _ _ _)
 ·have h1:=h.put b L hb hL
  have h2:Bx w1 b (upd b L (qs.take j) vs):=h1.same hm.size (hm.block _ h1.z hb)
  have e:upd b L (qs.take (j+1)) (vs++[v])=if q.b=b then (upd b L (qs.take j) vs).set q.o v else upd b L (qs.take j) vs:=by
   rw [List.take_add_one,hj]
   refine zgj b _ _ L q v ?_
   rw [h.ls.len,h.len,List.length_take]
   have:=(List.getElem?_eq_some_iff.1 hj).1
   omega
  rw [e]
  split
  ·rename_i eb
   subst eb
   by_cases hlt:q.o<(upd q.b L (qs.take j) vs).length
   ·exact h2.set q.o _ hlt
   ·rw [List.set_eq_of_length_le (by omega)]
    refine ⟨by simpa using h2.z,λi u hi=>?_,λo'=>by simpa using h2.f o'⟩
    have hil:=(List.getElem?_eq_some_iff.1 hi).1
    exact (World.cell?_setCell_other _ _ _ _ (by intro x;have:=congrArg Addr.off x;simp at this;omega)).trans (h2.c i u hi)
  ·rename_i eb
   exact h2.far eb _
 ·exact ((h.ls.move (hm.wide (T':=Tq g qs) (λk e=>Or.inl e)) hB).app hv).move hst hB
theorem zmV (h:rdK .u16 lj=none):rdK .lst lj=none:=by
 have h1:rW lj=none:=by
  cases hh:rW lj with
  | none=>rfl
  | some p=>simp only [rdK,hh] at h;cases h
 simp only [rdK,rL,h1];rfl
theorem zmW {c:Ct} (h:rdK .u16 lj=some (c,l1)):∃ n:Nat,c = .u16 n/\n<=65535/\(n<=l1.length->rdK .lst lj=some (.lst (l1.take n),l1.drop n))/\(l1.length<n->rdK .lst lj=none):=by
 cases hh:rW lj with
 | none=>simp only [rdK,hh] at h;cases h
 | some p =>
  obtain ⟨x,t⟩:=p
  simp only [rdK,hh,Option.map_some,Option.some.injEq,Prod.mk.injEq] at h
  obtain ⟨rfl,rfl⟩:=h
  obtain ⟨_,b0,b1⟩:=zdd hh
  refine ⟨x.toNat,by rw [show ((x.toNat:Nat):Int)=x by omega],by omega,λhn=>?_,λhn=>?_⟩
  ·simp only [rdK,rL,hh]
   rw [if_pos (by omega)];rfl
  ·simp only [rdK,rL,hh]
   rw [if_neg (by omega)];rfl
end
def RlEnd (N g B:Nat) (qs:List Pq) (l:List UInt8) (W:World) (e:Ending) (w':World):Prop :=
 (rdL (List.replicate qs.length .lst) l=none/\e=tornE/\Mv N (Tq g qs) (Tq g qs) W w'/\Kx W w') \/
 (e = .returned (.tuple #[]) /\ ∃ xs vs l',rdL (List.replicate qs.length .lst) l=some (xs,l')/\RL N g B qs qs.length l' xs vs W w')
theorem zix {w:World} {B n:Nat} {xs:List Value} {v:Value} (h:w.ownsRow B 5 1 v n xs):∃ a n c,v = .slice a n c:=by
 rcases h.2 with ⟨e0,_⟩|⟨g,cap,cur,e0,_⟩
 ·exact ⟨_,_,_,e0⟩
 ·exact ⟨_,_,_,e0⟩
theorem zom {w:World} {B C:Nat} {l:List UInt8} {v:Value} (hB:C<=B) (h:w.ownsRow B 5 1 v l.length (bcs l)):SlNw C w v l:=by
 rcases zfI h with h|⟨k,cap,h1,h2,h3,h4⟩
 ·exact Or.inl h
 ·exact Or.inr ⟨k,cap,h1,h2,by omega,h4⟩
theorem Sv.rlists (N g B k cap:Nat) (l:List UInt8) (qs:List Pq) (W:World) (h:Rr N g l W) (hk:k≠g) (hp:∀ j q,qs[j]? = some q->Pq.at N g k j W q) (hl:l.length<=9223372036854775807) (hql:qs.length<=100) (hB:∀ k,Tq g qs k->k<B) (hBW:B<=W.heap.size) :
 Calls Tryz.prog 378 #[pt g 0,.slice (some ⟨k,0,none⟩) qs.length cap] W λe w'=>RlEnd N g B qs l W e w':=by
 have H:=hid h
 have HP:=hid hp
 have HBB:=hid hB
 clear h hp hB
 go_enter Tryz.func378,Tryz.ntmps378
 go_wp2
 go_loopw [9] (λi wr=>∃ (j:Nat) (xs:List Ct) (vs:List Value) (lj:List UInt8),j<=qs.length/\i = .int .i64 j/\rdL (List.replicate j .lst) l=some (xs,lj)/\RL N g B qs j lj xs vs W wr) (λi _=>qs.length-(intOf i).toNat)
 case atStart=>exact ⟨0,[],[],l,Nat.zero_le _,rfl,rfl,RL.zero H.out⟩
 case round =>
  obtain ⟨j,xs,vs,lj,hj,rfl,hrd,hR⟩:=hrel
  by_cases hlt:j<qs.length
  ·obtain ⟨q,hqj⟩:∃ q,qs[j]? = some q:=⟨_,List.getElem?_eq_getElem hlt⟩
   have hq:=HP.out j q hqj
   have hkz:k<W.heap.size:=World.block_lt_of_cell? W _ hq.pp
   have hkt:¬ Tq g qs k:=λht=>by
    rcases ht with e|⟨q',hm,e⟩
    ·exact hk e
    ·obtain ⟨i,hi⟩:=List.mem_iff_getElem?.1 hm
     exact (HP.out i q' hi).nk e
   have c2:wr.cell? ⟨k,j,none⟩=some (pt q.b q.o):=(hR.mv.cell hkz hkt j).trans hq.pp
   have hkz2:=Nat.lt_of_lt_of_le hkz hR.mv.size
   have hjl:(j:Int)<qs.length:=by omega
   have hj0:(0:Int)<=j:=by omega
   have hpl:(qs.length:Int)<=100:=by omega
   have hlj:lj.length<=9223372036854775807:=by
    have:=(zbw _ _ _ _ hrd).1
    have h2:l.length=(wrL xs).length+lj.length:=by rw [this,List.length_append]
    omega
   have HR:=hid hR
   have HQ:=hid hq
   have HQJ:=hid hqj
   have HRD:=hid hrd
   clear hR hq hqj hrd hkt
   have HC:=hid (Sv.rone .u16 380 (.int .u16 0) 22 211 HR.out.r (λk cap qs W h hk hp hq=>Sv.rwords N g k cap lj qs W h hk hp hlj hq))
   go_upto_region 5 with (go_at_call 380;refine HC.out.mono ?_;rintro e w1 (⟨h1,rfl,h3,h4⟩|⟨rfl,c,l1,h2,h3,h4,h6,h7,h8⟩))
   case' inl=>exact ⟨rfl,Or.inl ⟨zdg HRD.out (zmV h1) hlt,rfl,HR.out.mv.trans (h3.wide (λk e=>Or.inl e)),HR.out.kx.trans h4⟩⟩
   obtain ⟨n,rfl,hn,hyes,hno⟩:=zmW h2
   have hl1:l1.length<=9223372036854775807:=by
    have:=(zih h2).1
    have h9:lj.length=_:=congrArg List.length this
    rw [List.length_append] at h9
    omega
   have g1:w1.cell? ⟨wr.heap.size,0,none⟩=some (.int .u16 n):=h4
   have HR1:=hid h3
   have HM1:=hid h6
   have HK1:=hid h7
   have hni:(n:Int)<=65535:=by omega
   have hn0:(0:Int)<=n:=by omega
   have hw1:IntKind.i64.wrap (n:Int)=n:=by rw [IntKind.wrap_i64];omega
   clear h2 h3 h4 h6 h7 HC
   by_cases hnl:n<=l1.length
   ·have HRK:=hid (hyes hnl)
    have HO:=hid (zcJ w1 n HR1.out hnl hl1)
    clear hyes hno
    go_wp2_with (first
     | (go_at_call 381;refine HO.out.mono ?_;rintro e w2 ⟨a,c,rfl,hs,hr,hm,hk1⟩;have HR2:=hid hr;have HM2:=hid (HM1.out.trans hm);have HK2:=hid (HK1.out.trans hk1);have HSS:=hid hs.slice;clear hs hr hm hk1)
     | (go_at_call 160;refine (zcU _ (l1.take n) _ HSS.out (by rw [List.length_take];omega)).mono ?_;rintro e w3 ⟨v3,rfl,hv3,hb3⟩;have HB3:=hid hb3;have HV3:=hid hv3;have hm3:Mv N (· = g) (· = g) wr w3:=HM2.out.trans (Mv.of_below (Nat.le_trans HR2.out.hN (Nat.le_of_lt HR2.out.z)) hb3);obtain ⟨⟨y0,y1⟩,y2,y3⟩:=HR.out.there HQ.out hm3;have HM3:=hid hm3;obtain ⟨va,vn,vc,ev⟩:=zix hv3;subst ev;clear hb3 hv3 hm3))
    exact ⟨⟨j+1,xs++[.lst (l1.take n)],vs++[.slice va vn vc],l1.drop n,by omega,by simp,zfG HRD.out HRK.out,HR.out.step HQJ.out HQ.out (HR2.out.kept HB3.out) HM3.out (HK2.out.trans (Kx.below HB3.out)) HBB.out (zom (by have:=HM2.out.size;have:=HR.out.mv.size;omega) HV3.out)⟩,by simp [intOf];omega⟩
   ·have HRK:=hid (hno (by omega))
    have HO:=hid (zcI w1 n HR1.out (by omega))
    clear hyes hno
    go_wp2_with (go_at_call 381;refine HO.out.mono ?_;rintro e w2 ⟨rfl,rfl⟩)
    exact ⟨rfl,Or.inl ⟨zdg HRD.out HRK.out hlt,rfl,HR.out.mv.trans (HM1.out.wide (λk e=>Or.inl e)),HR.out.kx.trans HK1.out⟩⟩
  ·have hj2:j=qs.length:=by omega
   subst hj2
   have hnl:¬ (qs.length:Int)<qs.length:=by omega
   have HR:=hid hR
   have HRD:=hid hrd
   clear hR hrd
   go_wp2
   go_end0
   exact Or.inr ⟨rfl,xs,vs,lj,HRD.out,HR.out⟩
section
variable {g : Nat} {ys : List UInt8} {v1 : Value} {wr : World}
structure TwoB (wr : World) (x y : Nat) (a b : Value) (Y : World) : Prop where
 low:Below wr.heap.size wr Y
 cx:Y.cell? ⟨x,0,none⟩=some a
 cy:Y.cell? ⟨y,0,none⟩=some b
 hx:wr.heap.size<=x
 hy:wr.heap.size<=y
theorem TwoB.a (wr:World) (a b:Value) (t:TypeId):TwoB wr wr.heap.size (wr.heap.size+1) a b (((wr.alloc (.cells #[a] t)).alloc (.cells #[b] t)).drew) :=
 ⟨(stA (stA (st0 wr) _) _).drew,zaX _ _ ((zat _ _ _ _ _ rfl).trans rfl),(zat _ _ _ _ _ (by simp)).trans rfl,Nat.le_refl _,by omega⟩
theorem TwoB.b (wr:World) (a b:Value) (t:TypeId):TwoB wr (wr.heap.size+1) wr.heap.size a b (((wr.alloc (.cells #[b] t)).alloc (.cells #[a] t)).drew) :=
 ⟨(stA (stA (st0 wr) _) _).drew,(zat _ _ _ _ _ (by simp)).trans rfl,zaX _ _ ((zat _ _ _ _ _ rfl).trans rfl),by omega,Nat.le_refl _⟩
theorem Sv.two2 (K:Kd) (f:Nat) (c d:Ct) (t2:TypeId) (hkc:c.kd=K) (hoc:c.ok) (hkd:d.kd=K) (hod:d.ok) (h:Wr g ys v1 wr) (x y:Nat) (Y:World) (hY:TwoB wr x y c.val d.val Y)
 (H:∀ (k cap:Nat) (ps:List Pc) (W:World),Wr g ys v1 W->¬ SaTw g v1 k->(∀ j p,ps[j]? = some p->Pc.at K (SaTw g v1) k j W p)->ps=[⟨x,0,c⟩,⟨y,0,d⟩]->Calls Tryz.prog f #[pt g 0,.slice (some ⟨k,0,none⟩) ps.length cap] W λe w'=>e = .returned (.tuple #[]) /\ ∃ v',Wr g (ys++wrL (cts ps)) v' w'/\Mv g (SaTw g v1) (SaTw g v') W w') :
 Calls Tryz.prog f #[pt g 0,.slice (some ⟨Y.heap.size,0,none⟩) 2 2] (Y.alloc (.cells #[pt x 0,pt y 0] t2)) λe w'=>e = .returned (.tuple #[]) /\ ∃ v',Wr g (ys++(c.wr++d.wr)) v' w'/\Mv g (SaTw g v1) (SaTw g v') wr w':=by
 have hYs:=hY.low.size
 refine (H Y.heap.size 2 [⟨x,0,c⟩,⟨y,0,d⟩] _ ((h.kept hY.low).over _) (h.new hYs) (λj p hj=>?_) rfl).mono λe w' ⟨he,v',h1,h2⟩=>⟨he,v',?_,?_⟩
 ·match j,hj with
  | 0,hj =>
   simp only [List.getElem?_cons_zero,Option.some.injEq] at hj
   subst hj
   exact ⟨(zat _ _ _ _ _ rfl).trans rfl,zaX _ _ hY.cx,h.new hY.hx,hoc,hkc⟩
  | 1,hj =>
   simp only [List.getElem?_cons_zero,List.getElem?_cons_succ,Option.some.injEq] at hj
   subst hj
   exact ⟨(zat _ _ _ _ _ rfl).trans rfl,zaX _ _ hY.cy,h.new hY.hy,hod,hkd⟩
 ·rw [show cts [⟨x,0,c⟩,⟨y,0,d⟩]=[c,d] from rfl,show wrL [c,d]=c.wr++d.wr by simp [wrL]] at h1
  exact h1
 ·exact (Mv.of_below (Nat.le_of_lt h.b.z) (stA hY.low _)).trans h2
end
theorem Sv.wnumbers (g k cap:Nat) (xs:List UInt8) (v:Value) (ps:List Pc) (W:World) (h:Wr g xs v W) (hk:¬ SaTw g v k) (hp:∀ j p,ps[j]? = some p->Pc.at .num (SaTw g v) k j W p) (hl:xs.length+4*ps.length<=50000) :
 Calls Tryz.prog 374 #[pt g 0,.slice (some ⟨k,0,none⟩) ps.length cap] W λe w'=>e = .returned (.tuple #[]) /\ ∃ v',Wr g (xs++wrL (cts ps)) v' w'/\Mv g (SaTw g v) (SaTw g v') W w':=by
 have H:=hid h
 have HP:=hid hp
 have HK:=hid hk
 clear h hp hk
 go_enter Tryz.func374,Tryz.ntmps374
 go_wp2
 go_loopw [10] (λi wr=>∃ (j:Nat) (v1:Value),j<=ps.length/\i = .int .i64 j/\Wr g (xs++wrL (cts (ps.take j))) v1 wr/\Mv g (SaTw g v) (SaTw g v1) W wr) (λi _=>ps.length-(intOf i).toNat)
 case atStart=>exact ⟨0,v,Nat.zero_le _,rfl,by simpa [cts,wrL] using H.out,Mv.refl _ _ _⟩
 case round =>
  obtain ⟨j,v1,hj,rfl,hR,hM⟩:=hrel
  obtain ⟨ys,hys⟩:∃ ys,ys=xs++wrL (cts (ps.take j)):=⟨_,rfl⟩
  rw [<- hys] at hR
  by_cases hlt:j<ps.length
  ·obtain ⟨p,hpj⟩:∃ p,ps[j]? = some p:=⟨_,List.getElem?_eq_getElem hlt⟩
   have hq:=HP.out j p hpj
   have hkz:k<W.heap.size:=World.block_lt_of_cell? W _ hq.q
   have hpz:p.b<W.heap.size:=World.block_lt_of_cell? W _ hq.v
   have c2:wr.cell? ⟨k,j,none⟩=some (pt p.b p.o):=(hM.cell hkz HK.out j).trans hq.q
   obtain ⟨n,hn⟩:=zoi hq.kd
   have c1:wr.cell? ⟨p.b,p.o,none⟩=some (.int .i64 n):=((hM.cell hpz hq.t p.o).trans hq.v).trans (by rw [hn];rfl)
   have hkz2:=Nat.lt_of_lt_of_le hkz hM.size
   have hpz2:=Nat.lt_of_lt_of_le hpz hM.size
   have hyl:ys.length+4<=50000:=by
    rw [hys,List.length_append,zdf (K:=.num) (by intro h;cases h) _ (zij HP.out j)]
    simp only [cts,List.length_map,List.length_take,Kd.len]
    omega
   have hys2:xs++wrL (cts (ps.take (j+1)))=ys++(Ct.num n).wr:=by rw [hys,ze2 hpj,zbl,zcH,hn,List.append_assoc]
   have HYS:=hid hys2
   have hok:=hq.ok
   rw [hn] at hok
   have hgz:=hR.b.z
   have HR:=hid hR
   have HM:=hid hM
   have hjl:(j:Int)<ps.length:=by omega
   have hj0:(0:Int)<=j:=by omega
   have hpl:(ps.length:Int)<=50000:=by omega
   have hb:0<=n/\n<=4294967295:=hok
   obtain ⟨hb0,hb1⟩:=hb
   have hw1:IntKind.u16.wrap (n/65536)=n/65536:=by rw [IntKind.wrap_u16];omega
   have hw2:IntKind.u16.wrap n=n%65536:=by rw [IntKind.wrap_u16]
   clear hq hR hM hys hys2 hpj hn
   go_upto_region 3 with fail
   go_cut [6,7,8,9,10] (λv6 v7 v8 v9 v10 Y=>v8 = .slice (some ⟨k,0,none⟩) ps.length cap/\v9 = .int .i64 ps.length/\v10 = .int .i64 j /\ ∃ x y,v6=pt x 0/\v7=pt y 0/\TwoB wr x y (.int .u16 (n/65536)) (.int .u16 (n%65536)) Y)
   case first =>
    go_region_held3 (λw'=>w'.cell? ⟨p.b,p.o,none⟩=some (.int .i64 n)) ((go_keep;done)) (fail)
    all_goals
     go_wp2
     go_meet
     first
      | exact ⟨rfl,rfl,rfl,_,_,rfl,rfl,TwoB.a wr _ _ _⟩
      | exact ⟨rfl,rfl,rfl,_,_,rfl,rfl,TwoB.b wr _ _ _⟩
   case rest =>
    obtain ⟨rfl,rfl,rfl,x,y,rfl,rfl,hY⟩:=hcut
    have HQ1:=hid (Sv.two2 (ys:=ys) (wr:=wr) .u16 375 (.u16 (n/65536)) (.u16 (n%65536)) 211 rfl ⟨by omega,by omega⟩ rfl ⟨by omega,by omega⟩ HR.out x y wc hY (λk cap ps W h hk hp e=>Sv.wwords g k cap ys v1 ps W h hk hp (by rw [e];show ys.length+2*2<=50000;omega)))
    clear hY
    go_wp2_with (go_at_call 375;refine HQ1.out.mono ?_;rintro e w1 ⟨rfl,v2,q1,q2⟩;have HQ:Hid (Wr g (ys++(Ct.num n).wr) v2 w1/\Mv g (SaTw g v1) (SaTw g v2) wr w1):=hid ⟨q1,q2⟩;clear q1 q2)
    exact ⟨⟨j+1,_,by omega,by simp,by rw [HYS.out];exact HQ.out.1,HM.out.trans HQ.out.2⟩,by simp [intOf];omega⟩
  ·have hj2:j=ps.length:=by omega
   subst hj2
   have hnl:¬ (ps.length:Int)<ps.length:=by omega
   rw [List.take_length] at hys
   have HR:=hid hR
   have HM:=hid hM
   have HYS:=hid hys
   clear hR hM hys
   go_wp2
   go_end0
   exact ⟨rfl,v1,by rw [<- HYS.out];exact HR.out,HM.out⟩
end Go.Proofs.YtbennamieealbaaGreatDoor
