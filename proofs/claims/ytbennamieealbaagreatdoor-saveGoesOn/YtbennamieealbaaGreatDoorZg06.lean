/-
  Parts of a proof, joined.
-/
import Derived.Test.YtbennamieealbaaGreatDoorZg05
import Derived.Test.YtbennamieealbaaGreatDoorZg04
set_option linter.unusedVariables false
set_option maxRecDepth 100000
set_option maxHeartbeats 1600000
namespace Go.Proofs.YtbennamieealbaaGreatDoor
open Go.ChangeShapes Go.WideShapes Go.ChangeAt Go.RowKit
abbrev tornE:Ending:=.panicked [{ v:=.iface 154 (.agg #[]),recovered:=false }]
def Kx (W w1:World):Prop:=∀ b L,Bx W b L->∃ L',Bx w1 b L'/\L'.length=L.length
theorem Kx.refl (W:World):Kx W W:=λb L h=>⟨L,h,rfl⟩
theorem Kx.trans {a b c:World} (h:Kx a b) (k:Kx b c):Kx a c:=λx L hx=>by
 obtain ⟨L1,h1,e1⟩:=h x L hx
 obtain ⟨L2,h2,e2⟩:=k x L1 h1
 exact ⟨L2,h2,e2.trans e1⟩
theorem Kx.below {W w1:World} (hb:Below W.heap.size W w1):Kx W w1:=λb L h=>⟨L,h.kept hb,rfl⟩
theorem Kx.set (W:World) (b o:Nat) (v:Value):Kx W (W.setCell ⟨b,o,none⟩ v):=λx L h=>by
 by_cases e:b=x
 ·subst e
  by_cases ho:o<L.length
  ·exact ⟨L.set o v,h.set o v ho,by simp⟩
  ·refine ⟨L,⟨by simpa using h.z,λj u hj=>?_,λo'=>by simpa using h.f o'⟩,rfl⟩
   have hjl:=(List.getElem?_eq_some_iff.1 hj).1
   exact (World.cell?_setCell_other _ _ _ _ (by intro x;have:=congrArg Addr.off x;simp at this;omega)).trans (h.c j u hj)
 ·exact ⟨L,h.far e v,rfl⟩
structure Rr (N g : Nat) (l : List UInt8) (W : World) : Prop where
 hN:N<=g
 s:∃ a c,Bx W g [.slice a l.length c]/\SlUn N W (.slice a l.length c) l
theorem Rr.z {N g:Nat} {l:List UInt8} {W:World} (h:Rr N g l W):g<W.heap.size:=by
 obtain ⟨a,c,h1,_⟩:=h.s
 exact h1.z
theorem Rr.move {N g:Nat} {l:List UInt8} {W w1:World} {T:Nat->Prop} (h:Rr N g l W) (hm:Mv N T T W w1) (hg:¬ T g):Rr N g l w1:=by
 obtain ⟨a,c,h1,h2⟩:=h.s
 exact ⟨h.hN,a,c,h1.same hm.size (hm.block g h1.z hg),h2.kept hm.below⟩
theorem Rr.kept {N g:Nat} {l:List UInt8} {W w1:World} (h:Rr N g l W) (hb:Below W.heap.size W w1):Rr N g l w1:=by
 obtain ⟨a,c,h1,h2⟩:=h.s
 exact ⟨h.hN,a,c,h1.kept hb,h2.kept (hb.mono (Nat.le_trans h.hN (Nat.le_of_lt h1.z)))⟩
theorem Sv.giveUp (g:Nat) (w:World):Calls Tryz.prog 122 #[pt g 0] w λe w'=>e=tornE/\w=w':=by
 have hpn:∀ (t:TypeId) (v:Value) (w:World),(Instr.panic (.iface t v)).run Tryz.prog w = .halt (.panic (.iface t v)) w:=λ_ _ _=>rfl
 go_enter Tryz.func122,Tryz.ntmps122
 go_wp2
 exact ⟨rfl,rfl,rfl⟩
theorem zcI {N g:Nat} {l:List UInt8} (W:World) (n:Nat) (h:Rr N g l W) (hn:l.length<n) :
 Calls Tryz.prog 381 #[pt g 0,.int .i64 n] W λe w'=>e=tornE/\W=w':=by
 obtain ⟨a,c,h1,h2⟩:=h.s
 have c0:=h1.at 0 _ rfl
 have hz:=h1.z
 have hd:(l.length:Int)<n:=by omega
 clear h h1 h2
 go_enter Tryz.func381,Tryz.ntmps381
 go_wp2_with (go_at_call 122;refine (Sv.giveUp g _).mono ?_;rintro e w' ⟨rfl,rfl⟩)
 exact ⟨rfl,rfl,rfl⟩
theorem SlUn.take {N:Nat} {W:World} {a:Option Addr} {c:Nat} {l:List UInt8} (h:SlUn N W (.slice a l.length c) l) (n:Nat) (hn:n<=l.length):SlUn N W (.slice a n c) (l.take n):=by
 have hl:(l.take n).length=n:=by rw [List.length_take];omega
 rcases h with ⟨a',c',h1,h2⟩|⟨b,o,c',h1,h2,h3,h4,h5⟩
 ·subst h2
  have:n=0:=by simpa using hn
  subst this
  exact Or.inl ⟨a,c,rfl,rfl⟩
 ·simp only [Value.slice.injEq] at h1
  obtain ⟨rfl,_,rfl⟩:=h1
  refine Or.inr ⟨b,o,c,by rw [hl],by rw [hl];omega,h3,h4,λj x hj=>?_⟩
  have hjl:=(List.getElem?_eq_some_iff.1 hj).1
  rw [List.getElem?_take_of_lt (by rw [hl] at hjl;exact hjl)] at hj
  exact h5 j x hj
theorem SlUn.drop {N:Nat} {W:World} {a:Option Addr} {c:Nat} {l:List UInt8} (h:SlUn N W (.slice a l.length c) l) (n:Nat) (hn:n<=l.length):SlUn N W (.slice (Option.map (λx=>x.add n) a) (l.length-n) (c-n)) (l.drop n):=by
 have hl:(l.drop n).length=l.length-n:=by rw [List.length_drop]
 rcases h with ⟨a',c',h1,h2⟩|⟨b,o,c',h1,h2,h3,h4,h5⟩
 ·subst h2
  have:n=0:=by simpa using hn
  subst this
  exact Or.inl ⟨_,_,rfl,rfl⟩
 ·simp only [Value.slice.injEq] at h1
  obtain ⟨rfl,_,rfl⟩:=h1
  refine Or.inr ⟨b,o+n,c-n,?_,by rw [hl];omega,h3,h4,λj x hj=>?_⟩
  ·rw [hl]
   simp only [Option.map_some,addr_add]
  ·rw [List.getElem?_drop] at hj
   rw [Nat.add_assoc]
   exact h5 (n+j) x hj
theorem SlUn.none {N:Nat} {W:World} {a:Option Addr} {l:List UInt8} {n c:Nat} (hn:l.length<=n):SlUn N W (.slice a (l.length-n) c) (l.drop n) :=
 Or.inl ⟨a,c,by rw [show l.length-n=0 by omega],List.drop_eq_nil_of_le hn⟩
theorem Rr.next {N g:Nat} {l:List UInt8} {W:World} {n c:Nat} {a:Option Addr} (h:Rr N g l W) (hs:SlUn N W (.slice a (l.length-n) c) (l.drop n)) :
 Rr N g (l.drop n) (W.setCell ⟨g,0,none⟩ (.slice a (l.length-n) c))/\Mv N (· = g) (· = g) W (W.setCell ⟨g,0,none⟩ (.slice a (l.length-n) c))/\Kx W (W.setCell ⟨g,0,none⟩ (.slice a (l.length-n) c)):=by
 obtain ⟨a',c',h1,h2⟩:=h.s
 have hm:Mv N (· = g) (· = g) W (W.setCell ⟨g,0,none⟩ (.slice a (l.length-n) c)):=(Mv.refl N (λx=>x=g) W).setCell (p:=⟨g,0,none⟩) h.hN (Or.inl rfl) _
 refine ⟨⟨h.hN,a,c,?_,?_⟩,hm,Kx.set _ _ _ _⟩
 ·rw [List.length_drop]
  exact h1.set 0 _ (by simp)
 ·rw [List.length_drop]
  exact hs.kept hm.below
theorem zcJ {N g:Nat} {l:List UInt8} (W:World) (n:Nat) (h:Rr N g l W) (hn:n<=l.length) (hl:l.length<=9223372036854775807) :
 Calls Tryz.prog 381 #[pt g 0,.int .i64 n] W λe w'=>∃ a c,e = .returned (.slice a n c)/\SlUn N w' (.slice a n c) (l.take n)/\Rr N g (l.drop n) w'/\Mv N (· = g) (· = g) W w'/\Kx W w':=by
 obtain ⟨a,c,h1,h2⟩:=h.s
 have c0:=h1.at 0 _ rfl
 have f0:=h1.f 0
 have hz:=h1.z
 have hd:¬ (l.length:Int)<n:=by omega
 have hd2:(n:Int)<=l.length:=by omega
 have hn0:(0:Int)<=n:=by omega
 have hnl:(l.length:Int)<=9223372036854775807:=by omega
 have hlc:l.length<=c:=by
  rcases h2 with ⟨a',c',e1,e2⟩|⟨b,o,c',e1,e2,_⟩
  ·subst e2;simp
  ·simp only [Value.slice.injEq] at e1
   omega
 have hnc:n<=c:=by omega
 have H:=hid h
 have H1:=hid h1
 have H2:=hid h2
 clear h h1 h2
 go_enter Tryz.func381,Tryz.ntmps381
 go_wp2
 case inl =>
  have hcn:c=n:=by omega
  subst hcn
  obtain ⟨q1,q2,q3⟩:=H.out.next (SlUn.none (a:=a) (c:=0) hlc)
  go_ret
  exact ⟨_,_,rfl,(H2.out.take _ hn).kept q2.below,q1,q2,q3⟩
 case inr =>
  obtain ⟨q1,q2,q3⟩:=H.out.next (n:=n) (H2.out.drop n hn)
  go_ret
  exact ⟨_,_,rfl,(H2.out.take n hn).kept q2.below,q1,q2,q3⟩
theorem zil {N g:Nat} (W:World) (h:Rr N g [] W):Calls Tryz.prog 69 #[pt g 0] W λe w'=>e = .returned (.tuple #[])/\W=w':=by
 obtain ⟨a,c,h1,h2⟩:=h.s
 have c0:=h1.at 0 _ rfl
 have hz:=h1.z
 clear h h1 h2
 go_enter Tryz.func69,Tryz.ntmps69
 go_wp2
 go_end0
 exact ⟨rfl,rfl⟩
structure Pq where
 b:Nat
 o:Nat
def Tq (g:Nat) (qs:List Pq) (k:Nat):Prop:=k=g \/ ∃ q∈qs,q.b=k
structure Pq.at (N g k j : Nat) (W : World) (q : Pq) : Prop where
 pp:W.cell? ⟨k,j,none⟩=some (pt q.b q.o)
 bx:∃ L,Bx W q.b L/\q.o<L.length
 lo:N<=q.b
 ng:q.b≠g
 nk:q.b≠k
def upd (b:Nat) (L:List Value):List Pq->List Value->List Value
 | q::qs,v::vs=>upd b (if q.b=b then L.set q.o v else L) qs vs
 | _,_=>L
theorem zgi (b:Nat):∀ (qs:List Pq) (vs L:List Value),(upd b L qs vs).length=L.length
 | [],vs,L=>by cases vs <;> rfl
 | q::qs,[],L=>rfl
 | q::qs,v::vs,L=>by
  rw [upd,zgi b qs vs]
  split <;> simp
theorem zgj (b:Nat):∀ (qs:List Pq) (vs L:List Value) (q:Pq) (v:Value),vs.length=qs.length->upd b L (qs++[q]) (vs++[v])=if q.b=b then (upd b L qs vs).set q.o v else upd b L qs vs
 | [],[],L,q,v,_=>rfl
 | p::qs,x::vs,L,q,v,h=>by
  simp only [List.cons_append,upd]
  exact zgj b qs vs _ q v (by simpa using h)
 | [],x::vs,L,q,v,h=>by simp at h
 | p::qs,[],L,q,v,h=>by simp at h
structure RI (N g : Nat) (qs : List Pq) (j : Nat) (lj : List UInt8) (xs : List Ct) (W wr : World) : Prop where
 r:Rr N g lj wr
 mv:Mv N (Tq g qs) (Tq g qs) W wr
 kx:Kx W wr
 put:∀ b L,b≠g->Bx W b L->Bx wr b (upd b L (qs.take j) (xs.map Ct.val))
 len:xs.length=j
theorem Mv.wide {B:Nat} {T T':Nat->Prop} {w w':World} (h:Mv B T T w w') (ht:∀ k,T k->T' k):Mv B T' T' w w' :=
 ⟨h.below,λk hk hn=>h.block k hk (λe=>hn (ht k e)),λk hk=>Or.inl hk⟩
section
variable {N g k j : Nat} {qs : List Pq} {q : Pq} {l lj l1 : List UInt8} {xs : List Ct} {W wr w1 : World}
theorem RI.zero (h:Rr N g l W):RI N g qs 0 l [] W W:=⟨h,Mv.refl _ _ _,Kx.refl _,λb L _ hb=>hb,rfl⟩
theorem RI.there (h:RI N g qs j lj xs W wr) (hq:Pq.at N g k j W q) (hm:Mv N (· = g) (· = g) wr w1):(∃ y,w1.cell? ⟨q.b,q.o,none⟩=some y)/\w1.frozen? ⟨q.b,q.o,none⟩=false/\q.b<w1.heap.size:=by
 obtain ⟨L,hL,ho⟩:=hq.bx
 have h1:=h.put q.b L hq.ng hL
 have h2:Bx w1 q.b (upd q.b L (qs.take j) (xs.map Ct.val)):=h1.same hm.size (hm.block _ h1.z hq.ng)
 exact ⟨⟨_,h2.at q.o _ (List.getElem?_eq_getElem (by rw [zgi];exact ho))⟩,h2.f _,h2.z⟩
theorem RI.step (h:RI N g qs j lj xs W wr) (hj:qs[j]? = some q) (hq:Pq.at N g k j W q) (hr:Rr N g l1 w1) (hm:Mv N (· = g) (· = g) wr w1) (hk:Kx wr w1) (c:Ct) :
 RI N g qs (j+1) l1 (xs++[c]) W (w1.setCell ⟨q.b,q.o,none⟩ c.val):=by
 have hqm:q∈qs:=List.mem_of_getElem? hj
 refine ⟨?_,?_,?_,λb L hb hL=>?_,by rw [List.length_append,h.len];rfl⟩
 ·exact hr.move (T:=λk=>k=q.b) ((Mv.refl N (λk=>k=q.b) w1).setCell (p:=⟨q.b,q.o,none⟩) hq.lo (Or.inl rfl) _) (Ne.symm hq.ng)
 ·exact (h.mv.trans (hm.wide (λk e=>Or.inl e))).setCell (p:=⟨q.b,q.o,none⟩) hq.lo (Or.inl (Or.inr ⟨q,hqm,rfl⟩)) _
 ·exact (h.kx.trans hk).trans (Kx.set _ _ _ _)
 ·have h1:=h.put b L hb hL
  have h2:Bx w1 b (upd b L (qs.take j) (xs.map Ct.val)):=h1.same hm.size (hm.block _ h1.z hb)
  have e:upd b L (qs.take (j+1)) ((xs++[c]).map Ct.val)=if q.b=b then (upd b L (qs.take j) (xs.map Ct.val)).set q.o c.val else upd b L (qs.take j) (xs.map Ct.val):=by
   rw [List.take_add_one,hj,List.map_append]
   refine zgj b _ _ L q c.val ?_
   rw [List.length_map,h.len,List.length_take]
   have:=(List.getElem?_eq_some_iff.1 hj).1
   omega
  rw [e]
  split
  ·rename_i eb
   subst eb
   obtain ⟨L0,hL0,ho⟩:=hq.bx
   by_cases hlt:q.o<(upd q.b L (qs.take j) (xs.map Ct.val)).length
   ·exact h2.set q.o _ hlt
   ·rw [List.set_eq_of_length_le (by omega)]
    refine ⟨by simpa using h2.z,λi u hi=>?_,λo'=>by simpa using h2.f o'⟩
    have hil:=(List.getElem?_eq_some_iff.1 hi).1
    exact (World.cell?_setCell_other _ _ _ _ (by intro x;have:=congrArg Addr.off x;simp at this;omega)).trans (h2.c i u hi)
  ·rename_i eb
   exact h2.far eb _
theorem zdg {K:Kd} {n:Nat} (h:rdL (List.replicate j K) l=some (xs,lj)) (hn:rdK K lj=none) (hj:j<n):rdL (List.replicate n K) l=none:=by
 have e:(List.replicate n K).take j=List.replicate j K:=by rw [List.take_replicate,Nat.min_eq_left (by omega)]
 have e2:((List.replicate n K).drop j).take 1=[K]:=by rw [List.drop_replicate,List.take_replicate,Nat.min_eq_left (by omega)];rfl
 refine (zci (K:=List.replicate n K) (n:=j) (k:=1) (l1:=lj) (xs:=xs) (by rw [e];exact h)).1 ?_
 rw [e2]
 simp only [rdL,hn]
theorem zfG {K:Kd} {c:Ct} (h:rdL (List.replicate j K) l=some (xs,lj)) (hn:rdK K lj=some (c,l1)):rdL (List.replicate (j+1) K) l=some (xs++[c],l1):=by
 rw [List.replicate_succ',zde,h]
 simp only [rdL,hn]
end
def RdEnd (K:Kd) (N g:Nat) (qs:List Pq) (l:List UInt8) (W:World) (e:Ending) (w':World):Prop :=
 (rdL (List.replicate qs.length K) l=none/\e=tornE/\Mv N (Tq g qs) (Tq g qs) W w'/\Kx W w') \/
 (e = .returned (.tuple #[]) /\ ∃ xs l',rdL (List.replicate qs.length K) l=some (xs,l')/\RI N g qs qs.length l' xs W w')
theorem byte_at {N:Nat} {W:World} {a:Option Addr} {n c:Nat} {x:UInt8} (h:SlUn N W (.slice a n c) [x]):∃ b o,a=some ⟨b,o,none⟩/\b<W.heap.size/\W.cell? ⟨b,o,none⟩=some (.int .u8 x.toNat)/\n=1:=by
 rcases h with ⟨_,_,_,h2⟩|⟨b,o,c',h1,h2,h3,h4,h5⟩
 ·cases h2
 ·simp only [Value.slice.injEq] at h1
  exact ⟨b,o,h1.1,h4,h5 0 x rfl,h1.2.1⟩
theorem Sv.rbytes (N g k cap:Nat) (l:List UInt8) (qs:List Pq) (W:World) (h:Rr N g l W) (hk:k≠g) (hp:∀ j q,qs[j]? = some q->Pq.at N g k j W q) (hl:l.length<=9223372036854775807) (hql:qs.length<=100) :
 Calls Tryz.prog 377 #[pt g 0,.slice (some ⟨k,0,none⟩) qs.length cap] W λe w'=>RdEnd .u8 N g qs l W e w':=by
 have H:=hid h
 have HP:=hid hp
 clear h hp
 go_enter Tryz.func377,Tryz.ntmps377
 go_wp2
 go_loopw [8] (λi wr=>∃ (j:Nat) (xs:List Ct) (lj:List UInt8),j<=qs.length/\i = .int .i64 j/\rdL (List.replicate j .u8) l=some (xs,lj)/\RI N g qs j lj xs W wr) (λi _=>qs.length-(intOf i).toNat)
 case atStart=>exact ⟨0,[],l,Nat.zero_le _,rfl,rfl,RI.zero H.out⟩
 case round =>
  obtain ⟨j,xs,lj,hj,rfl,hrd,hR⟩:=hrel
  by_cases hlt:j<qs.length
  ·obtain ⟨q,hqj⟩:∃ q,qs[j]? = some q:=⟨_,List.getElem?_eq_getElem hlt⟩
   have hq:=HP.out j q hqj
   have hkz:k<W.heap.size:=World.block_lt_of_cell? W _ hq.pp
   have hkt:¬ Tq g qs k:=λht=>by
    rcases ht with e|⟨q',hm,e⟩
    ·exact hk e
    ·obtain ⟨i,hi⟩:=List.mem_iff_getElem?.1 hm
     exact (HP.out i q' hi).nk e
   have c2:wr.cell? ⟨k,j,none⟩=some (pt q.b q.o):=(hR.mv.cell hkz hkt j).trans hq.pp
   have hkz2:=Nat.lt_of_lt_of_le hkz hR.mv.size
   have hjl:(j:Int)<qs.length:=by omega
   have hj0:(0:Int)<=j:=by omega
   have hpl:(qs.length:Int)<=100:=by omega
   have hlj:lj.length<=9223372036854775807:=by
    have:=(zbw _ _ _ _ hrd).1
    have h2:l.length=(wrL xs).length+lj.length:=by rw [this,List.length_append]
    omega
   have HR:=hid hR
   have HQ:=hid hq
   have HQJ:=hid hqj
   have HRD:=hid hrd
   clear hR hq hqj hrd hkt
   cases lj with
   | nil =>
    have HN:=hid (zcI wr 1 HR.out.r (by simp))
    go_wp2_with (go_at_call 381;refine HN.out.mono ?_;rintro e w' ⟨rfl,rfl⟩)
    exact ⟨rfl,Or.inl ⟨zdg HRD.out rfl hlt,rfl,HR.out.mv,HR.out.kx⟩⟩
   | cons x t =>
    have HO:=hid (zcJ wr 1 HR.out.r (by simp) hlj)
    go_wp2_with (go_at_call 381;refine HO.out.mono ?_;rintro e w1 ⟨a,c,rfl,hs,hr,hm,hk1⟩;obtain ⟨b,o,rfl,hbz,hb0,_⟩:=byte_at hs;obtain ⟨⟨y0,y1⟩,y2,y3⟩:=HR.out.there HQ.out hm;have HR1:Hid (Rr N g t w1):=hid hr;have HM1:=hid hm;have HK1:=hid hk1;clear hs hr hm hk1)
    exact ⟨⟨j+1,xs++[.u8 x.toNat],t,by omega,by simp,zfG HRD.out rfl,HR.out.step HQJ.out HQ.out HR1.out HM1.out HK1.out (.u8 x.toNat)⟩,by simp [intOf];omega⟩
  ·have hj2:j=qs.length:=by omega
   subst hj2
   have hnl:¬ (qs.length:Int)<qs.length:=by omega
   have HR:=hid hR
   have HRD:=hid hrd
   clear hR hrd
   go_wp2
   go_end0
   exact Or.inr ⟨rfl,xs,lj,HRD.out,HR.out⟩
theorem Sv.rbools (N g k cap:Nat) (l:List UInt8) (qs:List Pq) (W:World) (h:Rr N g l W) (hk:k≠g) (hp:∀ j q,qs[j]? = some q->Pq.at N g k j W q) (hl:l.length<=9223372036854775807) (hql:qs.length<=100) :
 Calls Tryz.prog 376 #[pt g 0,.slice (some ⟨k,0,none⟩) qs.length cap] W λe w'=>RdEnd .bo N g qs l W e w':=by
 have H:=hid h
 have HP:=hid hp
 clear h hp
 go_enter Tryz.func376,Tryz.ntmps376
 go_wp2
 go_loopw [9] (λi wr=>∃ (j:Nat) (xs:List Ct) (lj:List UInt8),j<=qs.length/\i = .int .i64 j/\rdL (List.replicate j .bo) l=some (xs,lj)/\RI N g qs j lj xs W wr) (λi _=>qs.length-(intOf i).toNat)
 case atStart=>exact ⟨0,[],l,Nat.zero_le _,rfl,rfl,RI.zero H.out⟩
 case round =>
  obtain ⟨j,xs,lj,hj,rfl,hrd,hR⟩:=hrel
  by_cases hlt:j<qs.length
  ·obtain ⟨q,hqj⟩:∃ q,qs[j]? = some q:=⟨_,List.getElem?_eq_getElem hlt⟩
   have hq:=HP.out j q hqj
   have hkz:k<W.heap.size:=World.block_lt_of_cell? W _ hq.pp
   have hkt:¬ Tq g qs k:=λht=>by
    rcases ht with e|⟨q',hm,e⟩
    ·exact hk e
    ·obtain ⟨i,hi⟩:=List.mem_iff_getElem?.1 hm
     exact (HP.out i q' hi).nk e
   have c2:wr.cell? ⟨k,j,none⟩=some (pt q.b q.o):=(hR.mv.cell hkz hkt j).trans hq.pp
   have hkz2:=Nat.lt_of_lt_of_le hkz hR.mv.size
   have hjl:(j:Int)<qs.length:=by omega
   have hj0:(0:Int)<=j:=by omega
   have hpl:(qs.length:Int)<=100:=by omega
   have hlj:lj.length<=9223372036854775807:=by
    have:=(zbw _ _ _ _ hrd).1
    have h2:l.length=(wrL xs).length+lj.length:=by rw [this,List.length_append]
    omega
   have HR:=hid hR
   have HQ:=hid hq
   have HQJ:=hid hqj
   have HRD:=hid hrd
   clear hR hq hqj hrd hkt
   cases lj with
   | nil =>
    have HN:=hid (zcI wr 1 HR.out.r (by simp))
    go_wp2_with (go_at_call 381;refine HN.out.mono ?_;rintro e w' ⟨rfl,rfl⟩)
    exact ⟨rfl,Or.inl ⟨zdg HRD.out rfl hlt,rfl,HR.out.mv,HR.out.kx⟩⟩
   | cons x t =>
    have HO:=hid (zcJ wr 1 HR.out.r (by simp) hlj)
    by_cases hx:x.toNat<=1
    ·have hd:decide (1<(x.toNat:Int))=false:=decide_eq_false (by omega)
     have hd2:((x.toNat:Int) == 1)=(x.toNat == 1):=by
      rw [Bool.eq_iff_iff,beq_iff_eq,beq_iff_eq]
      omega
     have hrk:rdK .bo (x::t)=some (.bo (x.toNat == 1),t):=by show (if x.toNat<=1 then some (Ct.bo (x.toNat == 1),t) else none)=_;rw [if_pos hx]
     have HRK:=hid hrk
     generalize (x.toNat == 1)=bb at hd2 HRK
     clear hrk hx
     go_wp2_with (go_at_call 381;refine HO.out.mono ?_;rintro e w1 ⟨a,c,rfl,hs,hr,hm,hk1⟩;obtain ⟨b,o,rfl,hbz,hb0,_⟩:=byte_at hs;obtain ⟨⟨y0,y1⟩,y2,y3⟩:=HR.out.there HQ.out hm;have HR1:Hid (Rr N g t w1):=hid hr;have HM1:=hid hm;have HK1:=hid hk1;clear hs hr hm hk1)
     exact ⟨⟨j+1,xs++[.bo bb],t,by omega,by simp,zfG HRD.out HRK.out,HR.out.step HQJ.out HQ.out HR1.out HM1.out HK1.out (.bo bb)⟩,by simp [intOf];omega⟩
    ·have hd:decide (1<(x.toNat:Int))=true:=decide_eq_true (by omega)
     have hrk:rdK .bo (x::t)=none:=by show (if x.toNat<=1 then some (Ct.bo (x.toNat == 1),t) else none)=_;rw [if_neg hx]
     have HRK:=hid hrk
     clear hrk hx
     go_wp2_with (first
      | (go_at_call 381;refine HO.out.mono ?_;rintro e w1 ⟨a,c,rfl,hs,hr,hm,hk1⟩;obtain ⟨b,o,rfl,hbz,hb0,_⟩:=byte_at hs;obtain ⟨⟨y0,y1⟩,y2,y3⟩:=HR.out.there HQ.out hm;have HR1:Hid (Rr N g t w1):=hid hr;have HM1:=hid hm;have HK1:=hid hk1;clear hs hr hm hk1)
      | (go_at_call 122;refine (Sv.giveUp g _).mono ?_;rintro e w' ⟨rfl,rfl⟩))
     exact ⟨rfl,Or.inl ⟨zdg HRD.out HRK.out hlt,rfl,HR.out.mv.trans (HM1.out.wide (λk e=>Or.inl e)),HR.out.kx.trans HK1.out⟩⟩
  ·have hj2:j=qs.length:=by omega
   subst hj2
   have hnl:¬ (qs.length:Int)<qs.length:=by omega
   have HR:=hid hR
   have HRD:=hid hrd
   clear hR hrd
   go_wp2
   go_end0
   exact Or.inr ⟨rfl,xs,lj,HRD.out,HR.out⟩
section
variable {N g : Nat} {lj : List UInt8} {wr : World}
theorem Mv.narrow {W w':World} {qs:List Pq} (hb:Below wr.heap.size wr W) (hN:N<=wr.heap.size) (hq:∀ q∈qs,wr.heap.size<=q.b) (h:Mv N (Tq g qs) (Tq g qs) W w'):Mv N (· = g) (· = g) wr w' :=
 ⟨(hb.mono hN).trans h.below,λk hk hn=>(h.block k (Nat.lt_of_lt_of_le hk hb.size) (λht=>by
   rcases ht with e|⟨q,hm,e⟩
   ·exact hn e
   ·have:=hq q hm
    omega)).trans (hb.block k hk),λk hk=>Or.inl hk⟩
theorem Sv.rtwo (K:Kd) (f:Nat) (a b:Value) (t t2:TypeId) (h:Rr N g lj wr)
 (H:∀ (k cap:Nat) (qs:List Pq) (W:World),Rr N g lj W->k≠g->(∀ j q,qs[j]? = some q->Pq.at N g k j W q)->qs.length<=100->Calls Tryz.prog f #[pt g 0,.slice (some ⟨k,0,none⟩) qs.length cap] W λe w'=>RdEnd K N g qs lj W e w') :
 Calls Tryz.prog f #[pt g 0,.slice (some ⟨wr.heap.size+1+1,0,none⟩) 2 2] (((wr.alloc (.cells #[a] t)).alloc (.cells #[b] t)).alloc (.cells #[pt wr.heap.size 0,pt (wr.heap.size+1) 0] t2)) λe w' =>
  (rdL [K,K] lj=none/\e=tornE/\Mv N (· = g) (· = g) wr w'/\Kx wr w') \/
  (e = .returned (.tuple #[]) /\ ∃ c d l',rdL [K,K] lj=some ([c,d],l')/\Rr N g l' w'/\w'.cell? ⟨wr.heap.size,0,none⟩=some c.val/\w'.cell? ⟨wr.heap.size+1,0,none⟩=some d.val/\Mv N (· = g) (· = g) wr w'/\Kx wr w'/\wr.heap.size+1<w'.heap.size):=by
 have hgz:=h.z
 have hN:N<=wr.heap.size:=Nat.le_trans h.hN (Nat.le_of_lt hgz)
 have hb:=stA (stA (stA (st0 wr) (.cells #[a] t)) (.cells #[b] t)) (.cells #[pt wr.heap.size 0,pt (wr.heap.size+1) 0] t2)
 have b1:Bx (((wr.alloc (.cells #[a] t)).alloc (.cells #[b] t)).alloc (.cells #[pt wr.heap.size 0,pt (wr.heap.size+1) 0] t2)) wr.heap.size [a]:=((Bx.new wr [a] t rfl).over _).over _
 have b2:Bx (((wr.alloc (.cells #[a] t)).alloc (.cells #[b] t)).alloc (.cells #[pt wr.heap.size 0,pt (wr.heap.size+1) 0] t2)) (wr.heap.size+1) [b]:=(Bx.new (wr.alloc (.cells #[a] t)) [b] t (by simp)).over _
 have hq:∀ q∈([⟨wr.heap.size,0⟩,⟨wr.heap.size+1,0⟩]:List Pq),wr.heap.size<=q.b:=λq hm=>by
  simp only [List.mem_cons,List.not_mem_nil,or_false] at hm
  rcases hm with rfl|rfl
  ·exact Nat.le_refl _
  ·exact Nat.le_succ _
 refine (H (wr.heap.size+1+1) 2 [⟨wr.heap.size,0⟩,⟨wr.heap.size+1,0⟩] _ (h.kept hb) (by omega) (λj q hj=>?_) (by simp)).mono λe w' hE=>?_
 ·match j,hj with
  | 0,hj =>
   simp only [List.getElem?_cons_zero,Option.some.injEq] at hj
   subst hj
   exact ⟨(zat _ _ _ _ _ (by simp)).trans rfl,⟨[a],b1,by simp⟩,hN,by show wr.heap.size≠g;omega,by show wr.heap.size≠_;omega⟩
  | 1,hj =>
   simp only [List.getElem?_cons_zero,List.getElem?_cons_succ,Option.some.injEq] at hj
   subst hj
   exact ⟨(zat _ _ _ _ _ (by simp)).trans rfl,⟨[b],b2,by simp⟩,by show N<=wr.heap.size+1;omega,by show wr.heap.size+1≠g;omega,by show wr.heap.size+1≠_;omega⟩
 ·rcases hE with ⟨h1,h2,h3,h4⟩|⟨h1,xs,l',h2,h3⟩
  ·exact Or.inl ⟨h1,h2,Mv.narrow hb hN hq h3,(Kx.below hb).trans h4⟩
  ·have hx:∃ c d,xs=[c,d]:=by
    have:=h3.len
    match xs,this with
    | [c,d],_=>exact ⟨c,d,rfl⟩
   obtain ⟨c,d,rfl⟩:=hx
   have p1:=h3.put wr.heap.size [a] (by omega) b1
   have p2:=h3.put (wr.heap.size+1) [b] (by omega) b2
   refine Or.inr ⟨h1,c,d,l',h2,h3.r,?_,?_,Mv.narrow hb hN hq h3.mv,(Kx.below hb).trans h3.kx,p2.z⟩
   ·refine p1.at 0 _ ?_
    simp [upd]
   ·refine p2.at 0 _ ?_
    simp [upd]
theorem Sv.rone (K:Kd) (f:Nat) (a:Value) (t t2:TypeId) (h:Rr N g lj wr)
 (H:∀ (k cap:Nat) (qs:List Pq) (W:World),Rr N g lj W->k≠g->(∀ j q,qs[j]? = some q->Pq.at N g k j W q)->qs.length<=100->Calls Tryz.prog f #[pt g 0,.slice (some ⟨k,0,none⟩) qs.length cap] W λe w'=>RdEnd K N g qs lj W e w') :
 Calls Tryz.prog f #[pt g 0,.slice (some ⟨wr.heap.size+1,0,none⟩) 1 1] ((wr.alloc (.cells #[a] t)).alloc (.cells #[pt wr.heap.size 0] t2)) λe w' =>
  (rdK K lj=none/\e=tornE/\Mv N (· = g) (· = g) wr w'/\Kx wr w') \/
  (e = .returned (.tuple #[]) /\ ∃ c l',rdK K lj=some (c,l')/\Rr N g l' w'/\w'.cell? ⟨wr.heap.size,0,none⟩=some c.val/\Mv N (· = g) (· = g) wr w'/\Kx wr w'/\wr.heap.size<w'.heap.size):=by
 have hgz:=h.z
 have hN:N<=wr.heap.size:=Nat.le_trans h.hN (Nat.le_of_lt hgz)
 have hb:=stA (stA (st0 wr) (.cells #[a] t)) (.cells #[pt wr.heap.size 0] t2)
 have b1:Bx ((wr.alloc (.cells #[a] t)).alloc (.cells #[pt wr.heap.size 0] t2)) wr.heap.size [a]:=(Bx.new wr [a] t rfl).over _
 have hq:∀ q∈([⟨wr.heap.size,0⟩]:List Pq),wr.heap.size<=q.b:=λq hm=>by
  simp only [List.mem_cons,List.not_mem_nil,or_false] at hm
  subst hm
  exact Nat.le_refl _
 refine (H (wr.heap.size+1) 1 [⟨wr.heap.size,0⟩] _ (h.kept hb) (by omega) (λj q hj=>?_) (by simp)).mono λe w' hE=>?_
 ·match j,hj with
  | 0,hj =>
   simp only [List.getElem?_cons_zero,Option.some.injEq] at hj
   subst hj
   exact ⟨(zat _ _ _ _ _ (by simp)).trans rfl,⟨[a],b1,by simp⟩,hN,by show wr.heap.size≠g;omega,by show wr.heap.size≠_;omega⟩
 ·have e1:rdL [K] lj=match rdK K lj with|none=>none|some (c,l1)=>some ([c],l1):=by
   simp only [rdL]
   cases rdK K lj <;> rfl
  rcases hE with ⟨h1,h2,h3,h4⟩|⟨h1,xs,l',h2,h3⟩
  ·refine Or.inl ⟨?_,h2,Mv.narrow hb hN hq h3,(Kx.below hb).trans h4⟩
   have h1':rdL [K] lj=none:=h1
   rw [e1] at h1'
   cases hh:rdK K lj with
   | none=>rfl
   | some p=>rw [hh] at h1';cases h1'
  ·have hx:∃ c,xs=[c]:=by
    have:=h3.len
    match xs,this with
    | [c],_=>exact ⟨c,rfl⟩
   obtain ⟨c,rfl⟩:=hx
   have p1:=h3.put wr.heap.size [a] (by omega) b1
   refine Or.inr ⟨h1,c,l',?_,h3.r,?_,Mv.narrow hb hN hq h3.mv,(Kx.below hb).trans h3.kx,p1.z⟩
   ·have h2':rdL [K] lj=some ([c],l'):=h2
    rw [e1] at h2'
    cases hh:rdK K lj with
    | none=>rw [hh] at h2';cases h2'
    | some p =>
     obtain ⟨c',l1⟩:=p
     rw [hh] at h2'
     simp only [Option.some.injEq,Prod.mk.injEq,List.cons.injEq,and_true] at h2'
     rw [h2'.1,h2'.2]
   ·refine p1.at 0 _ ?_
    simp [upd]
theorem zmS (h:rdL [.u8,.u8] lj=none):rdK .u16 lj=none:=by
 match lj,h with
 | [],_=>rfl
 | [x],_=>rfl
 | x::y::t,h=>cases h
theorem zmT {c d:Ct} {l':List UInt8} (h:rdL [.u8,.u8] lj=some ([c,d],l')):∃ x y:Int,c = .u8 x/\d = .u8 y/\(0<=x/\x<=255)/\(0<=y/\y<=255)/\rdK .u16 lj=some (.u16 (x*256+y),l'):=by
 match lj,h with
 | x::y::t,h =>
  simp only [rdL,rdK,Option.some.injEq,Prod.mk.injEq,List.cons.injEq,and_true] at h
  obtain ⟨⟨rfl,rfl⟩,rfl⟩:=h
  exact ⟨_,_,rfl,rfl,u8_bd x,u8_bd y,rfl⟩
theorem zkL (h:rdL [.u16,.u16] lj=none):rdK .num lj=none:=by
 simp only [rdL,rdK] at h
 show (rN lj).map _=none
 unfold rN
 cases h1:rW lj with
 | none=>rfl
 | some p =>
  obtain ⟨x,l1⟩:=p
  rw [h1] at h
  simp only [Option.map_some] at h
  simp only
  cases h2:rW l1 with
  | none=>rfl
  | some q=>rw [h2] at h;cases h
theorem zkM {c d:Ct} {l':List UInt8} (h:rdL [.u16,.u16] lj=some ([c,d],l')):∃ x y:Int,c = .u16 x/\d = .u16 y/\(0<=x/\x<=65535)/\(0<=y/\y<=65535)/\rdK .num lj=some (.num (x*65536+y),l'):=by
 simp only [rdL,rdK] at h
 cases h1:rW lj with
 | none=>rw [h1] at h;cases h
 | some p =>
  obtain ⟨x,l1⟩:=p
  rw [h1] at h
  simp only [Option.map_some] at h
  cases h2:rW l1 with
  | none=>rw [h2] at h;cases h
  | some q =>
   obtain ⟨y,l2⟩:=q
   rw [h2] at h
   simp only [Option.map_some,Option.some.injEq,Prod.mk.injEq,List.cons.injEq,and_true] at h
   obtain ⟨⟨rfl,rfl⟩,rfl⟩:=h
   refine ⟨x,y,rfl,rfl,(zdd h1).2,(zdd h2).2,?_⟩
   show (rN lj).map _=_
   unfold rN
   rw [h1]
   simp only
   rw [h2]
   rfl
end
theorem joined64 (x y:Int) (hx:0<=x/\x<=65535) (hy:0<=y/\y<=65535):bits .or .i64 (x*65536) y=x*65536+y:=by
 obtain ⟨A,rfl⟩:=Int.eq_ofNat_of_zero_le hx.1
 obtain ⟨B,rfl⟩:=Int.eq_ofNat_of_zero_le hy.1
 have h:A*65536 ||| B=A*65536+B:=by
  have:=Nat.two_pow_add_eq_or_of_lt (i:=16) (b:=B) (by omega) A
  rw [show A*65536=2 ^ 16*A from by omega];exact this.symm
 have z:∀ n:Nat,n<18446744073709551616->(BitVec.ofInt 64 (n:Int)).toNat=n:=λn hn=>by
  rw [BitVec.ofInt_natCast,BitVec.toNat_ofNat];exact Nat.mod_eq_of_lt (by omega)
 rw [show (A:Int)*65536=((A*65536:Nat):Int) from by omega]
 show IntKind.i64.wrap ((BitVec.ofInt 64 ((A*65536:Nat):Int) ||| BitVec.ofInt 64 (B:Int)).toNat:Int)=_
 rw [BitVec.toNat_or,z _ (by omega),z _ (by omega),h,IntKind.wrap_i64]
 omega
theorem Sv.rwords (N g k cap:Nat) (l:List UInt8) (qs:List Pq) (W:World) (h:Rr N g l W) (hk:k≠g) (hp:∀ j q,qs[j]? = some q->Pq.at N g k j W q) (hl:l.length<=9223372036854775807) (hql:qs.length<=100) :
 Calls Tryz.prog 380 #[pt g 0,.slice (some ⟨k,0,none⟩) qs.length cap] W λe w'=>RdEnd .u16 N g qs l W e w':=by
 have H:=hid h
 have HP:=hid hp
 clear h hp
 go_enter Tryz.func380,Tryz.ntmps380
 go_wp2
 go_loopw [10] (λi wr=>∃ (j:Nat) (xs:List Ct) (lj:List UInt8),j<=qs.length/\i = .int .i64 j/\rdL (List.replicate j .u16) l=some (xs,lj)/\RI N g qs j lj xs W wr) (λi _=>qs.length-(intOf i).toNat)
 case atStart=>exact ⟨0,[],l,Nat.zero_le _,rfl,rfl,RI.zero H.out⟩
 case round =>
  obtain ⟨j,xs,lj,hj,rfl,hrd,hR⟩:=hrel
  by_cases hlt:j<qs.length
  ·obtain ⟨q,hqj⟩:∃ q,qs[j]? = some q:=⟨_,List.getElem?_eq_getElem hlt⟩
   have hq:=HP.out j q hqj
   have hkz:k<W.heap.size:=World.block_lt_of_cell? W _ hq.pp
   have hkt:¬ Tq g qs k:=λht=>by
    rcases ht with e|⟨q',hm,e⟩
    ·exact hk e
    ·obtain ⟨i,hi⟩:=List.mem_iff_getElem?.1 hm
     exact (HP.out i q' hi).nk e
   have c2:wr.cell? ⟨k,j,none⟩=some (pt q.b q.o):=(hR.mv.cell hkz hkt j).trans hq.pp
   have hkz2:=Nat.lt_of_lt_of_le hkz hR.mv.size
   have hjl:(j:Int)<qs.length:=by omega
   have hj0:(0:Int)<=j:=by omega
   have hpl:(qs.length:Int)<=100:=by omega
   have hlj:lj.length<=9223372036854775807:=by
    have:=(zbw _ _ _ _ hrd).1
    have h2:l.length=(wrL xs).length+lj.length:=by rw [this,List.length_append]
    omega
   have HR:=hid hR
   have HQ:=hid hq
   have HQJ:=hid hqj
   have HRD:=hid hrd
   clear hR hq hqj hrd hkt
   have HC:=hid (Sv.rtwo .u8 377 (.int .u8 0) (.int .u8 0) 5 207 HR.out.r (λk cap qs W h hk hp hq=>Sv.rbytes N g k cap lj qs W h hk hp hlj hq))
   go_upto_region 5 with (go_at_call 377;refine HC.out.mono ?_;rintro e w1 (⟨h1,rfl,h3,h4⟩|⟨rfl,c,d,l1,h2,h3,h4,h5,h6,h7,h8⟩))
   case' inl=>exact ⟨rfl,Or.inl ⟨zdg HRD.out (zmS h1) hlt,rfl,HR.out.mv.trans (h3.wide (λk e=>Or.inl e)),HR.out.kx.trans h4⟩⟩
   obtain ⟨x,y,rfl,rfl,hx,hy,hrk⟩:=zmT h2
   have g1:w1.cell? ⟨wr.heap.size,0,none⟩=some (.int .u8 x):=h4
   have g2:w1.cell? ⟨wr.heap.size+1,0,none⟩=some (.int .u8 y):=h5
   obtain ⟨⟨y0,y1⟩,y2,y3⟩:=HR.out.there HQ.out h6
   have HR1:=hid h3
   have HM1:=hid h6
   have HK1:=hid h7
   have HRK:=hid hrk
   clear h2 h3 h4 h5 h6 h7 hrk HC
   go_wp2_with (go_at_call 181;refine (zbS x y _ hx hy).mono ?_;rintro e w2 ⟨rfl,rfl⟩)
   exact ⟨⟨j+1,xs++[.u16 (x*256+y)],l1,by omega,by simp,zfG HRD.out HRK.out,HR.out.step HQJ.out HQ.out HR1.out HM1.out HK1.out (.u16 (x*256+y))⟩,by simp [intOf];omega⟩
  ·have hj2:j=qs.length:=by omega
   subst hj2
   have hnl:¬ (qs.length:Int)<qs.length:=by omega
   have HR:=hid hR
   have HRD:=hid hrd
   clear hR hrd
   go_wp2
   go_end0
   exact Or.inr ⟨rfl,xs,lj,HRD.out,HR.out⟩
theorem Sv.rnumbers (N g k cap:Nat) (l:List UInt8) (qs:List Pq) (W:World) (h:Rr N g l W) (hk:k≠g) (hp:∀ j q,qs[j]? = some q->Pq.at N g k j W q) (hl:l.length<=9223372036854775807) (hql:qs.length<=100) :
 Calls Tryz.prog 379 #[pt g 0,.slice (some ⟨k,0,none⟩) qs.length cap] W λe w'=>RdEnd .num N g qs l W e w':=by
 have H:=hid h
 have HP:=hid hp
 clear h hp
 go_enter Tryz.func379,Tryz.ntmps379
 go_wp2
 go_loopw [10] (λi wr=>∃ (j:Nat) (xs:List Ct) (lj:List UInt8),j<=qs.length/\i = .int .i64 j/\rdL (List.replicate j .num) l=some (xs,lj)/\RI N g qs j lj xs W wr) (λi _=>qs.length-(intOf i).toNat)
 case atStart=>exact ⟨0,[],l,Nat.zero_le _,rfl,rfl,RI.zero H.out⟩
 case round =>
  obtain ⟨j,xs,lj,hj,rfl,hrd,hR⟩:=hrel
  by_cases hlt:j<qs.length
  ·obtain ⟨q,hqj⟩:∃ q,qs[j]? = some q:=⟨_,List.getElem?_eq_getElem hlt⟩
   have hq:=HP.out j q hqj
   have hkz:k<W.heap.size:=World.block_lt_of_cell? W _ hq.pp
   have hkt:¬ Tq g qs k:=λht=>by
    rcases ht with e|⟨q',hm,e⟩
    ·exact hk e
    ·obtain ⟨i,hi⟩:=List.mem_iff_getElem?.1 hm
     exact (HP.out i q' hi).nk e
   have c2:wr.cell? ⟨k,j,none⟩=some (pt q.b q.o):=(hR.mv.cell hkz hkt j).trans hq.pp
   have hkz2:=Nat.lt_of_lt_of_le hkz hR.mv.size
   have hjl:(j:Int)<qs.length:=by omega
   have hj0:(0:Int)<=j:=by omega
   have hpl:(qs.length:Int)<=100:=by omega
   have hlj:lj.length<=9223372036854775807:=by
    have:=(zbw _ _ _ _ hrd).1
    have h2:l.length=(wrL xs).length+lj.length:=by rw [this,List.length_append]
    omega
   have HR:=hid hR
   have HQ:=hid hq
   have HQJ:=hid hqj
   have HRD:=hid hrd
   clear hR hq hqj hrd hkt
   have HC:=hid (Sv.rtwo .u16 380 (.int .u16 0) (.int .u16 0) 22 211 HR.out.r (λk cap qs W h hk hp hq=>Sv.rwords N g k cap lj qs W h hk hp hlj hq))
   go_upto_region 5 with (go_at_call 380;refine HC.out.mono ?_;rintro e w1 (⟨h1,rfl,h3,h4⟩|⟨rfl,c,d,l1,h2,h3,h4,h5,h6,h7,h8⟩))
   case' inl=>exact ⟨rfl,Or.inl ⟨zdg HRD.out (zkL h1) hlt,rfl,HR.out.mv.trans (h3.wide (λk e=>Or.inl e)),HR.out.kx.trans h4⟩⟩
   obtain ⟨x,y,rfl,rfl,hx,hy,hrk⟩:=zkM h2
   have g1:w1.cell? ⟨wr.heap.size,0,none⟩=some (.int .u16 x):=h4
   have g2:w1.cell? ⟨wr.heap.size+1,0,none⟩=some (.int .u16 y):=h5
   obtain ⟨⟨y0,y1⟩,y2,y3⟩:=HR.out.there HQ.out h6
   have HR1:=hid h3
   have HM1:=hid h6
   have HK1:=hid h7
   have HRK:=hid hrk
   clear h2 h3 h4 h5 h6 h7 hrk HC
   have hor:=joined64 x y hx hy
   go_wp2
   exact ⟨⟨j+1,xs++[.num (x*65536+y)],l1,by omega,by simp,zfG HRD.out HRK.out,HR.out.step HQJ.out HQ.out HR1.out HM1.out HK1.out (.num (x*65536+y))⟩,by simp [intOf];omega⟩
  ·have hj2:j=qs.length:=by omega
   subst hj2
   have hnl:¬ (qs.length:Int)<qs.length:=by omega
   have HR:=hid hR
   have HRD:=hid hrd
   clear hR hrd
   go_wp2
   go_end0
   exact Or.inr ⟨rfl,xs,lj,HRD.out,HR.out⟩
theorem zbm (k n cap:Nat) (a:Int) (w:World) (hn:0<n) (hN:n<=1000) (ha:0<=a/\a<=65535) :
 Calls Tryz.prog 161 #[.slice (some ⟨k,0,none⟩) n cap,.int .u16 a] w λe w'=>e = .returned (pt k (a%n).toNat)/\w=w':=by
 have hm:Int.tmod a n=a%n:=Int.tmod_eq_emod_of_nonneg ha.1
 have h0:0<=a%n:=Int.emod_nonneg _ (by omega)
 have h1:a%n<n:=Int.emod_lt_of_pos _ (by omega)
 have hz:((n:Int) == 0)=false:=by simp;omega
 go_enter Tryz.func161,Tryz.ntmps161
 go_wp2
 go_ret
 exact ⟨rfl,rfl⟩
theorem zal (a:Int) (w:World) (ha:0<=a/\a<=65535) :
 Calls Tryz.prog 182 #[.int .u16 a] w λe w'=>e = .returned (.bool (isPort a))/\w=w':=by
 unfold isPort
 by_cases h:53248<=a
 ·by_cases h2:a<=57343
  ·rw [decide_eq_true ⟨h,h2⟩]
   go_enter Tryz.func182,Tryz.ntmps182
   go_wp2
   go_ret
   exact ⟨rfl,rfl⟩
  ·rw [decide_eq_false (λx=>h2 x.2)]
   go_enter Tryz.func182,Tryz.ntmps182
   go_wp2
   go_ret
   exact ⟨rfl,rfl⟩
 ·rw [decide_eq_false (λx=>h x.1)]
  go_enter Tryz.func182,Tryz.ntmps182
  go_wp2
  go_ret
  exact ⟨rfl,rfl⟩
theorem zbf (n m:Int) (w:World) :
 Calls Tryz.prog 29 #[.int .i64 n,.int .i64 m] w λe w'=>e = .returned (.bool (decide (0<=n/\n<=m)))/\w=w':=by
 by_cases h:0<=n
 ·by_cases h2:n<=m
  ·rw [decide_eq_true ⟨h,h2⟩]
   go_enter Tryz.func29,Tryz.ntmps29
   go_wp2
   go_ret
   exact ⟨rfl,rfl⟩
  ·rw [decide_eq_false (λx=>h2 x.2)]
   go_enter Tryz.func29,Tryz.ntmps29
   go_wp2
   go_ret
   exact ⟨rfl,rfl⟩
 ·rw [decide_eq_false (λx=>h x.1)]
  go_enter Tryz.func29,Tryz.ntmps29
  go_wp2
  go_ret
  exact ⟨rfl,rfl⟩
theorem zb7 (b:Bool) (n:Int) (w:World) :
 Calls Tryz.prog 220 #[.bool b,.int .u8 n] w λe w'=>e = .returned (.int .u8 (sel b n 0))/\w=w':=by
 cases b
 all_goals
  go_enter Tryz.func220,Tryz.ntmps220
  go_wp2
  go_ret
  exact ⟨rfl,rfl⟩
end Go.Proofs.YtbennamieealbaaGreatDoor
