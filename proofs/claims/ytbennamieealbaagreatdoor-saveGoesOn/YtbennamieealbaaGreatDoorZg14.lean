/-
  Parts of a proof, joined.
-/
import Derived.Test.YtbennamieealbaaGreatDoorZg12
import Derived.Test.YtbennamieealbaaGreatDoorZg06
import Derived.Test.YtbennamieealbaaGreatDoorZg13
import Derived.Test.YtbennamieealbaaGreatDoorZg11
set_option linter.unusedVariables false
set_option maxRecDepth 100000
namespace Go.Proofs.YtbennamieealbaaGreatDoor
open Go.ChangeShapes Go.WideShapes Go.ChangeAt Go.RowKit
def Mach.chk (M:Mach):Int :=
 if M.mrom.length<=1024/\M.arom.length<=1024 then
  if M.ram.length=128/\M.own.length=64/\M.video.length=256 then
   if 0<=M.s.w/\M.s.w<=15 then
    if bok M.b.l M.b.a M.b.f then
     if (0<=M.clock/\M.clock<=200000)/\(0<=M.mready/\M.mready<=M.clock+20000)/\(0<=M.aready/\M.aready<=M.clock+20000) then 0 else 3
    else 3
   else 3
  else 4
 else 2
theorem ze6 {M:Mach} (hok:M.ok) (h:M.chk=0):M.fit:=by
 unfold Mach.chk at h
 split at h
 ·rename_i h1
  split at h
  ·rename_i h2
   split at h
   ·rename_i h3
    split at h
    ·rename_i h4
     split at h
     ·rename_i h5
      have hb:=(zax _ _ _).1 h4
      exact ⟨hok,h1.1,h1.2,h2.1,h2.2.1,h2.2.2,h3,⟨hb.l0,hb.l1,hb.a0,hb.a1,hb.f0,Int.le_trans hb.f1 (by decide)⟩,h5.1,h5.2.1,h5.2.2⟩
     ·cases h
    ·cases h
   ·cases h
  ·cases h
 ·cases h
theorem zgl {M:Mach} (h:M.fit) (hf2:M.b.f<=20000):M.chk=0:=by
 unfold Mach.chk
 rw [if_pos ⟨h.mrom,h.arom⟩,if_pos ⟨h.ram,h.own,h.video⟩,if_pos h.w,if_pos ((zax _ _ _).2 ⟨h.b.l0,h.b.l1,h.b.a0,h.b.a1,h.b.f0,hf2⟩),if_pos ⟨h.clock,h.mready,h.aready⟩]
def Sl.lens (S:Sl) (M:Mach):Prop:=∀ j,j<5->∃ a c,S.get j = .slice a (M.byt j).length c
theorem Bx.sndR {Y:World} {b:Nat} {M:Mach} {S:Sl} (h:Bx Y b (machL M S)):Y.rangeAt b 45 (sndL M.s):=λi v hi=>by
 refine h.at (45+i) v ?_
 have hl:=(List.getElem?_eq_some_iff.1 hi).1
 have hc:i=0 \/ i=1 \/ i=2 \/ i=3 \/ i=4 \/ i=5 \/ i=6 \/ i=7 \/ i=8 \/ i=9 \/ i=10 \/ i=11 \/ i=12 \/ i=13 \/ i=14 \/ i=15:=by simp [sndL] at hl;omega
 rcases hc with rfl|rfl|rfl|rfl|rfl|rfl|rfl|rfl|rfl|rfl|rfl|rfl|rfl|rfl|rfl|rfl <;> exact hi
theorem ziB (M:Mach):(machC M).length=75:=rfl
theorem zk3 (M:Mach) (S:Sl):∀ i,i<75->∀ c,(machC M)[i]? = some c->c.kd ≠ .lst->(machL M S)[i]? = some c.val
 | 0,_,c,h,_|1,_,c,h,_|2,_,c,h,_|3,_,c,h,_|4,_,c,h,_|5,_,c,h,_|6,_,c,h,_|7,_,c,h,_|8,_,c,h,_|9,_,c,h,_
 | 10,_,c,h,_|11,_,c,h,_|12,_,c,h,_|13,_,c,h,_|14,_,c,h,_|15,_,c,h,_|16,_,c,h,_|17,_,c,h,_|18,_,c,h,_|19,_,c,h,_
 | 20,_,c,h,_|21,_,c,h,_|22,_,c,h,_|23,_,c,h,_|24,_,c,h,_|25,_,c,h,_|26,_,c,h,_|27,_,c,h,_|28,_,c,h,_|29,_,c,h,_
 | 35,_,c,h,_|36,_,c,h,_|37,_,c,h,_|38,_,c,h,_|39,_,c,h,_
 | 40,_,c,h,_|41,_,c,h,_|42,_,c,h,_|43,_,c,h,_|44,_,c,h,_|45,_,c,h,_|46,_,c,h,_|47,_,c,h,_|48,_,c,h,_|49,_,c,h,_
 | 50,_,c,h,_|51,_,c,h,_|52,_,c,h,_|53,_,c,h,_|54,_,c,h,_|55,_,c,h,_|56,_,c,h,_|57,_,c,h,_|58,_,c,h,_|59,_,c,h,_
 | 60,_,c,h,_|61,_,c,h,_|62,_,c,h,_|63,_,c,h,_|64,_,c,h,_|65,_,c,h,_|66,_,c,h,_|67,_,c,h,_|68,_,c,h,_|69,_,c,h,_
 | 70,_,c,h,_|71,_,c,h,_|72,_,c,h,_|73,_,c,h,_|74,_,c,h,_=>by
  have h':=Option.some.inj h
  subst h'
  rfl
 | 30,_,c,h,hk|31,_,c,h,hk|32,_,c,h,hk|33,_,c,h,hk|34,_,c,h,hk=>by
  have h':=Option.some.inj h
  subst h'
  exact absurd rfl hk
 | n+75,h,_,_,_=>by omega
theorem zgV:∀ i∈svI,i<75:=by decide
theorem zmx {M:Mach} {j i:Nat} (h:svI[j]? = some i):∃ c,(svX M)[j]? = some c/\(machC M)[i]? = some c:=by
 have hi:=zgV i (List.mem_of_getElem? h)
 obtain ⟨c,hc⟩:∃ c,(machC M)[i]? = some c:=⟨_,List.getElem?_eq_getElem (by rw [ziB];exact hi)⟩
 refine ⟨c,?_,hc⟩
 unfold svX
 rw [List.getElem?_map,h]
 simp [List.getD,hc]
theorem zop {j:Nat} {k:Kd} {M:Mach} {c:Ct} (h:svK[j]? = some k) (hc:(svX M)[j]? = some c):c.kd=k:=by
 have e:=zog M
 rw [<- e,List.getElem?_map,hc] at h
 exact Option.some.inj h
def Mach.wok (M:Mach):Prop:=(∀ c∈svX M,c.ok)/\(enc M).length<=4000
structure Src (M : Mach) (S : Sl) (m g : Nat) (W0 : World) : Prop where
 bx:Bx W0 m (machL M S)
 lt:m<g
 s:∀ j,j<5->SlUn g W0 (S.get j) (M.byt j)
 ok:M.wok
theorem Src.kept {M:Mach} {S:Sl} {m g:Nat} {W0 W:World} (h:Src M S m g W0) (hb:Below g W0 W):Src M S m g W:=⟨h.bx.under hb h.lt,h.lt,λj hj=>(h.s j hj).kept hb,h.ok⟩
structure StW (M : Mach) (g : Nat) (W0 : World) (n : Nat) (W : World) : Prop where
 w:∃ v,Wr g (wrL ((svX M).take n)) v W
 low:Below g W0 W
theorem zgW (M:Mach) (n:Nat):(wrL ((svX M).take n)).length<=(enc M).length:=by
 have e:svX M=(svX M).take n++(svX M).drop n:=(List.take_append_drop _ _).symm
 have e2:(enc M).length=(wrL ((svX M).take n)).length+(wrL ((svX M).drop n)).length:=by
  unfold enc
  rw [<- List.length_append,<- zbl,List.take_append_drop]
 omega
theorem take_at {α:Type} {l:List α} {n k j:Nat} {x:α} (h:((l.drop n).take k)[j]? = some x):l[n+j]? = some x/\j<k:=by
 have hj:=(List.getElem?_eq_some_iff.1 h).1
 rw [List.length_take] at hj
 rw [List.getElem?_take_of_lt (by omega),List.getElem?_drop] at h
 exact ⟨h,by omega⟩
theorem zoq {α:Type} {k j:Nat} {a:α} (h:j<k):(List.replicate k a)[j]? = some a:=by rw [List.getElem?_replicate,if_pos h]
theorem ziC {m:Nat} {l:List Nat} {j:Nat} {i:Nat} (h:l[j]? = some i):(ptrs m l)[j]? = some (pt m i):=by unfold ptrs;rw [List.getElem?_map,h];rfl
section
variable {M : Mach} {S : Sl} {m g : Nat} {W0 W : World}
theorem zk4 (n k:Nat):cts (((svI.drop n).take k).map (λi=>(⟨m,i,(machC M).getD i (.u8 0)⟩:Pc)))=((svX M).drop n).take k:=by
 unfold cts svX
 rw [List.map_map,List.map_take,List.map_drop]
 rfl
theorem Sv.wstep (K:Kd) (f:Nat) (t:TypeId) (hK:K ≠ .lst)
 (H:∀ (k cap:Nat) (xs:List UInt8) (v:Value) (ps:List Pc) (W:World),Wr g xs v W->¬ SaTw g v k->(∀ j p,ps[j]? = some p->Pc.at K (SaTw g v) k j W p)->xs.length+K.len*ps.length<=50000->Calls Tryz.prog f #[pt g 0,.slice (some ⟨k,0,none⟩) ps.length cap] W λe w'=>e = .returned (.tuple #[]) /\ ∃ v',Wr g (xs++wrL (cts ps)) v' w'/\Mv g (SaTw g v) (SaTw g v') W w')
 (hs:Src M S m g W0) (n k:Nat) (W:World) (h:StW M g W0 n W) (hk:(svK.drop n).take k=List.replicate k K) :
 Calls Tryz.prog f #[pt g 0,.slice (some ⟨W.heap.size,0,none⟩) k k] (W.alloc (.cells (ptrs m ((svI.drop n).take k)).toArray t)) (Stp (StW M g W0) (λ_=>False) (n+k)):=by
 obtain ⟨v,hw⟩:=h.w
 have hsW:=hs.kept h.low
 have hln:((svI.drop n).take k).length=k:=by
  have e:((svK.drop n).take k).length=k:=by rw [hk,List.length_replicate]
  have e2:svK.length=svI.length:=by rfl
  rw [List.length_take,List.length_drop] at e ⊢
  omega
 let ps:List Pc:=((svI.drop n).take k).map (λi=>⟨m,i,(machC M).getD i (.u8 0)⟩)
 have hpl:ps.length=k:=by show (List.map _ _).length=k;rw [List.length_map,hln]
 have hct:cts ps=((svX M).drop n).take k:=zk4 n k
 have hp:∀ j p,ps[j]? = some p->Pc.at K (SaTw g v) W.heap.size j (W.alloc (.cells (ptrs m ((svI.drop n).take k)).toArray t)) p:=λj p hj=>by
  rw [List.getElem?_map,Option.map_eq_some_iff] at hj
  obtain ⟨i,hi,rfl⟩:=hj
  obtain ⟨hi2,hjk⟩:=take_at hi
  obtain ⟨c,hc1,hc2⟩:=zmx (M:=M) hi2
  have hkd:c.kd=K:=by
   have h2:((svK.drop n).take k)[j]? = some K:=by rw [hk];exact zoq hjk
   exact zop (take_at h2).1 hc1
  have hd:(machC M).getD i (.u8 0)=c:=by simp [List.getD,hc2]
  have hi75:=zgV i (List.mem_of_getElem? hi2)
  refine ⟨?_,?_,?_,?_,?_⟩
  ·refine (zat _ _ _ _ _ rfl).trans ?_
   simpa using ziC (m:=m) hi
  ·show (W.alloc _).cell? ⟨m,i,none⟩=some ((machC M).getD i (.u8 0)).val
   rw [hd]
   exact zaX _ _ (hsW.bx.at i _ (zk3 M S i hi75 c hc2 (by rw [hkd];exact hK)))
  ·exact hw.low hs.lt
  ·show ((machC M).getD i (.u8 0)).ok
   rw [hd];exact hs.ok.1 c (List.mem_of_getElem? hc1)
  ·show ((machC M).getD i (.u8 0)).kd=K
   rw [hd];exact hkd
 have hkd2:∀ c∈cts ps,c.kd=K:=λc hc=>by
  obtain ⟨p,hp1,rfl⟩:=List.mem_map.1 hc
  obtain ⟨i,hi⟩:=List.mem_iff_getElem?.1 hp1
  exact (hp i p hi).kd
 have hlen:(wrL ((svX M).take n)).length+K.len*ps.length<=50000:=by
  have h1:=zgW M (n+k)
  rw [<- zc3,List.length_append,<- hct,zdf hK _ hkd2] at h1
  have h2:=hs.ok.2
  simp only [cts,List.length_map] at h1
  omega
 have hc:=H W.heap.size k _ v ps _ (hw.over (.cells (ptrs m ((svI.drop n).take k)).toArray t)) (hw.new (Nat.le_refl _)) hp hlen
 rw [hpl] at hc
 refine hc.mono λe w' ⟨he,v',h1,h2⟩=>Or.inr ⟨he,⟨v',?_⟩,?_⟩
 ·rw [hct,zc3] at h1
  exact h1
 ·exact h.low.trans (((stA (st0 W) _).mono (Nat.le_of_lt hw.b.z)).trans h2.below)
theorem Sv.wstepL (f:Nat) (t:TypeId)
 (H:∀ (k cap:Nat) (xs:List UInt8) (v:Value) (ps:List Ps) (W:World),Wr g xs v W->¬ SaTw g v k->(∀ j p,ps[j]? = some p->Ps.at g k j W p)->xs.length+(wrL (lts ps)).length<=50000->ps.length<=100->Calls Tryz.prog f #[pt g 0,.slice (some ⟨k,0,none⟩) ps.length cap] W λe w'=>e = .returned (.tuple #[]) /\ ∃ v',Wr g (xs++wrL (lts ps)) v' w'/\Mv g (SaTw g v) (SaTw g v') W w')
 (hs:Src M S m g W0) (W:World) (h:StW M g W0 30 W) :
 Calls Tryz.prog f #[pt g 0,.slice (some ⟨W.heap.size,0,none⟩) 5 5] (W.alloc (.cells (ptrs m ((svI.drop 30).take 5)).toArray t)) (Stp (StW M g W0) (λ_=>False) 35):=by
 obtain ⟨v,hw⟩:=h.w
 have hsW:=hs.kept h.low
 let ps:List Ps:=[⟨m,30,M.mrom⟩,⟨m,31,M.arom⟩,⟨m,32,M.ram⟩,⟨m,33,M.own⟩,⟨m,34,M.video⟩]
 have hct:lts ps=((svX M).drop 30).take 5:=rfl
 have hok:∀ c∈lts ps,c.ok:=λc hc=>hs.ok.1 c (by rw [hct] at hc;exact List.mem_of_mem_drop (List.mem_of_mem_take hc))
 have hlt:W.heap.size<=(W.alloc (.cells (ptrs m ((svI.drop 30).take 5)).toArray t)).heap.size:=by simp
 have hone:∀ j (hj:j<5) (l:List UInt8),M.byt j=l->(Ct.lst l).ok->Ps.at g W.heap.size j (W.alloc (.cells (ptrs m ((svI.drop 30).take 5)).toArray t)) ⟨m,30+j,l⟩:=λj hj l hl hlo=>by
  refine ⟨?_,⟨S.get j,zaX _ _ (hsW.bx.at (30+j) _ (ze4 M S j hj)),?_⟩,hs.lt,hlo⟩
  ·refine (zat _ _ _ _ _ rfl).trans ?_
   rcases five hj with rfl|rfl|rfl|rfl|rfl <;> rfl
  ·rw [<- hl]
   exact (hsW.s j hj).kept ((stA (st0 W) _).mono (Nat.le_of_lt hw.b.z))
 have hp:∀ j p,ps[j]? = some p->Ps.at g W.heap.size j (W.alloc (.cells (ptrs m ((svI.drop 30).take 5)).toArray t)) p:=λj p hj=>by
  match j,hj with
  | 0,hj=>cases hj;exact hone 0 (by omega) _ rfl (hok _ (by simp [lts,ps]))
  | 1,hj=>cases hj;exact hone 1 (by omega) _ rfl (hok _ (by simp [lts,ps]))
  | 2,hj=>cases hj;exact hone 2 (by omega) _ rfl (hok _ (by simp [lts,ps]))
  | 3,hj=>cases hj;exact hone 3 (by omega) _ rfl (hok _ (by simp [lts,ps]))
  | 4,hj=>cases hj;exact hone 4 (by omega) _ rfl (hok _ (by simp [lts,ps]))
  | j+5,hj=>cases hj
 have hlen:(wrL ((svX M).take 30)).length+(wrL (lts ps)).length<=50000:=by
  have h1:=zgW M (30+5)
  rw [<- zc3,List.length_append,<- hct] at h1
  have h2:=hs.ok.2
  omega
 have hc:=H W.heap.size 5 _ v ps _ (hw.over (.cells (ptrs m ((svI.drop 30).take 5)).toArray t)) (hw.new (Nat.le_refl _)) hp hlen (by simp [ps])
 refine hc.mono λe w' ⟨he,v',h1,h2⟩=>Or.inr ⟨he,⟨v',?_⟩,?_⟩
 ·rw [hct,zc3] at h1
  exact h1
 ·exact h.low.trans (((stA (st0 W) _).mono (Nat.le_of_lt hw.b.z)).trans h2.below)
theorem Sv.wcar (hs:Src M S m g W0):Car 152 g m 372 371 375 374 373 (StW M g W0) (λ_=>False) where
 drew:=λn W h=>⟨h.w.elim λv hv=>⟨v,hv.drew⟩,h.low.drew⟩
 eb:=λ_ _=>rfl
 eo:=λ_ _=>rfl
 ew:=λ_ _=>rfl
 en:=λ_ _=>rfl
 el:=λ_ _=>rfl
 mb:=λ_=>by kernel_rfl
 mo:=λ_=>by kernel_rfl
 mw:=λ_=>by kernel_rfl
 mn:=λ_=>by kernel_rfl
 ml:=λ_=>by kernel_rfl
 nb:=λ_=>by kernel_rfl
 no:=λ_=>by kernel_rfl
 nw:=λ_=>by kernel_rfl
 nn:=λ_=>by kernel_rfl
 nl:=λ_=>by kernel_rfl
 sb:=Sv.wstep .u8 _ _ (by intro h;cases h) (λk cap xs v ps W h hk hp hl=>Sv.wbyte g k cap xs v ps W h hk hp (by simpa [Kd.len] using hl)) hs
 so:=Sv.wstep .bo _ _ (by intro h;cases h) (λk cap xs v ps W h hk hp hl=>Sv.wbools g k cap xs v ps W h hk hp hl) hs
 sw:=Sv.wstep .u16 _ _ (by intro h;cases h) (λk cap xs v ps W h hk hp hl=>Sv.wwords g k cap xs v ps W h hk hp hl) hs
 sn:=Sv.wstep .num _ _ (by intro h;cases h) (λk cap xs v ps W h hk hp hl=>Sv.wnumbers g k cap xs v ps W h hk hp hl) hs
 sl:=Sv.wstepL _ _ (λk cap xs v ps W h hk hp hl h1=>Sv.wlists g k cap xs v ps W h hk hp hl h1) hs
end
def Ct.is (B:Nat) (W:World) (c:Ct) (v:Value):Prop :=
 match c with
 | .lst l=>SlNw B W v l
 | c=>v=c.val
theorem Ct.is_val {B:Nat} {W:World} {c:Ct} (h:c.kd ≠ .lst):c.is B W c.val:=by
 cases c <;> first|rfl|exact absurd rfl h
theorem Ct.is.move {B N:Nat} {W w1:World} {T:Nat->Prop} {c:Ct} {v:Value} (h:c.is B W v) (hm:Mv N T T W w1) (ht:∀ k,T k->k<B):c.is B w1 v:=by
 cases c with
 | lst l=>exact SlNw.move (show SlNw B W v l from h) hm ht
 | u8 n=>exact h
 | bo n=>exact h
 | u16 n=>exact h
 | num n=>exact h
def All2 (B:Nat) (W:World):List Ct->List Value->Prop
 | [],[]=>True
 | c::cs,v::vs=>c.is B W v/\All2 B W cs vs
 | _,_=>False
theorem All2.move {B N:Nat} {W w1:World} {T:Nat->Prop} (hm:Mv N T T W w1) (ht:∀ k,T k->k<B):∀ {cs:List Ct} {vs:List Value},All2 B W cs vs->All2 B w1 cs vs
 | [],[],h=>h
 | c::cs,x::vs,⟨h1,h⟩=>⟨h1.move hm ht,h.move hm ht⟩
 | [],x::vs,h=>h.elim
 | c::cs,[],h=>h.elim
theorem All2.set {B:Nat} {W:World}:∀ {cs:List Ct} {vs:List Value} (i:Nat) {c:Ct} {v:Value},All2 B W cs vs->c.is B W v->All2 B W (cs.set i c) (vs.set i v)
 | [],[],i,c,v,h,hc=>h
 | c'::cs,x::vs,0,c,v,⟨_,h⟩,hc=>⟨hc,h⟩
 | c'::cs,x::vs,i+1,c,v,⟨h1,h⟩,hc=>⟨h1,h.set i hc⟩
 | [],x::vs,i,c,v,h,hc=>h.elim
 | c'::cs,[],i,c,v,h,hc=>h.elim
theorem All2.len {B:Nat} {W:World}:∀ {cs:List Ct} {vs:List Value},All2 B W cs vs->vs.length=cs.length
 | [],[],h=>rfl
 | c::cs,x::vs,⟨_,h⟩=>by rw [List.length_cons,List.length_cons,h.len]
 | [],x::vs,h=>h.elim
 | c::cs,[],h=>h.elim
theorem All2.cons {B:Nat} {W:World} {c:Ct} {cs:List Ct} {L:List Value} (h:All2 B W (c::cs) L):∃ v L',L=v::L'/\c.is B W v/\All2 B W cs L':=by
 cases L with
 | nil=>exact h.elim
 | cons v L'=>exact ⟨v,L',rfl,h.1,h.2⟩
theorem ze7 {B m:Nat} {W:World}:∀ (is:List Nat) (xs:List Ct) (vs:List Value) (cs:List Ct) (L:List Value),All2 B W cs L->All2 B W xs vs->All2 B W (setAll cs is xs) (upd m L (is.map (λi=>⟨m,i⟩)) vs)
 | [],xs,vs,cs,L,h,hx=>by
  have e:upd m L [] vs=L:=by cases vs <;> rfl
  have e2:setAll cs [] xs=cs:=by cases xs <;> rfl
  rw [List.map_nil,e,e2];exact h
 | i::is,[],[],cs,L,h,hx=>h
 | i::is,x::xs,v::vs,cs,L,h,hx=>by
  simp only [List.map_cons,upd,setAll,if_pos]
  exact ze7 is xs vs _ _ (h.set i hx.1) hx.2
 | i::is,x::xs,[],cs,L,h,hx=>hx.elim
 | i::is,[],v::vs,cs,L,h,hx=>hx.elim
theorem zgX {B:Nat} {W:World}:∀ (xs:List Ct),(∀ c∈xs,c.kd ≠ .lst)->All2 B W xs (xs.map Ct.val)
 | [],_=>trivial
 | c::xs,h=>⟨Ct.is_val (h c List.mem_cons_self),zgX xs (λx hx=>h x (List.mem_cons_of_mem _ hx))⟩
theorem LsAt.all2 {B:Nat} {W:World}:∀ {cs:List Ct} {vs:List Value},LsAt B W cs vs->All2 B W cs vs
 | [],[],h=>trivial
 | c::cs,x::vs,⟨⟨l,e,hv⟩,h⟩=>⟨by subst e;exact hv,h.all2⟩
 | [],x::vs,h=>h.elim
 | c::cs,[],h=>h.elim
structure StR (N g m : Nat) (l0 : List UInt8) (cs0 : List Ct) (W0 : World) (n : Nat) (W : World) : Prop where
 r:∃ xs lj,rdL (svK.take n) l0=some (xs,lj)/\Rr N g lj W /\ ∃ L,Bx W m L/\All2 W0.heap.size W (setAll cs0 (svI.take n) xs) L
 mv:Mv N (λk=>k=g \/ k=m) (λk=>k=g \/ k=m) W0 W
 kx:Kx W0 W
structure NoR (N g m : Nat) (l0 : List UInt8) (W0 W : World) : Prop where
 r:rdL svK l0=none
 mv:Mv N (λk=>k=g \/ k=m) (λk=>k=g \/ k=m) W0 W
 kx:Kx W0 W
structure Dst (N g m : Nat) (W0 : World) : Prop where
 lo:N<=m
 mg:m≠g
 mz:m<W0.heap.size
 gz:g<W0.heap.size
section
variable {N g m : Nat} {l0 : List UInt8} {cs0 : List Ct} {W0 : World}
theorem tq_m {is:List Nat} (k:Nat) (h:Tq g (is.map (λi=>(⟨m,i⟩:Pq))) k):k=g \/ k=m:=by
 rcases h with e|⟨q,hq,e⟩
 ·exact Or.inl e
 ·obtain ⟨i,_,rfl⟩:=List.mem_map.1 hq
  exact Or.inr e.symm
theorem Mv.back {W w':World} {t:Obj} (h:Mv N (λk=>k=g \/ k=m) (λk=>k=g \/ k=m) W0 W) (hN:N<=W.heap.size) (h2:Mv N (λk=>k=g \/ k=m) (λk=>k=g \/ k=m) (W.alloc t) w'):Mv N (λk=>k=g \/ k=m) (λk=>k=g \/ k=m) W0 w' :=
 (h.trans (Mv.of_below hN (stA (st0 W) t))).trans h2
theorem zem:∀ (is:List Nat) (xs:List Ct) (cs:List Ct),(setAll cs is xs).length=cs.length
 | [],xs,cs=>by cases xs <;> rfl
 | i::is,[],cs=>rfl
 | i::is,x::xs,cs=>by rw [setAll,zem is xs];simp
theorem Sv.rpre (hd:Dst N g m W0) (hc0:cs0.length=75) {n k:Nat} {W:World} {xs:List Ct} {L:List Value} (t:TypeId) (hb:Bx W m L) (ha:All2 W0.heap.size W (setAll cs0 (svI.take n) xs) L) (hz:W0.heap.size<=W.heap.size) (hgz:g<W.heap.size) :
 ∀ j q,(((svI.drop n).take k).map (λi=>(⟨m,i⟩:Pq)))[j]? = some q->Pq.at N g W.heap.size j (W.alloc (.cells (ptrs m ((svI.drop n).take k)).toArray t)) q:=λj q hj=>by
 rw [List.getElem?_map,Option.map_eq_some_iff] at hj
 obtain ⟨i,hi,rfl⟩:=hj
 have hi75:=zgV i (List.mem_of_getElem? (take_at hi).1)
 refine ⟨?_,⟨L,hb.over _,?_⟩,hd.lo,hd.mg,?_⟩
 ·refine (zat _ _ _ _ _ rfl).trans ?_
  simpa using ziC (m:=m) hi
 ·rw [ha.len,zem,hc0];exact hi75
 ·have:=hd.mz
  show m≠W.heap.size
  omega
theorem ziD (n k:Nat):((svI.drop n).take k).length=((svK.drop n).take k).length:=by
 rw [List.length_take,List.length_take,List.length_drop,List.length_drop]
 rfl
theorem zfJ {n k:Nat} {xs ys:List Ct} (h:xs.length=(svI.take n).length):setAll cs0 (svI.take (n+k)) (xs++ys)=setAll (setAll cs0 (svI.take n) xs) ((svI.drop n).take k) ys:=by
 rw [List.take_add,zej _ _ _ _ _ h]
theorem Sv.rstep (K:Kd) (f:Nat) (t:TypeId) (hK:K ≠ .lst) (hd:Dst N g m W0) (hc0:cs0.length=75) (hl0:l0.length<=9223372036854775807)
 (H:∀ (k cap:Nat) (l:List UInt8) (qs:List Pq) (W:World),Rr N g l W->k≠g->(∀ j q,qs[j]? = some q->Pq.at N g k j W q)->l.length<=9223372036854775807->qs.length<=100->Calls Tryz.prog f #[pt g 0,.slice (some ⟨k,0,none⟩) qs.length cap] W λe w'=>RdEnd K N g qs l W e w')
 (n k:Nat) (W:World) (h:StR N g m l0 cs0 W0 n W) (hk:(svK.drop n).take k=List.replicate k K) :
 Calls Tryz.prog f #[pt g 0,.slice (some ⟨W.heap.size,0,none⟩) k k] (W.alloc (.cells (ptrs m ((svI.drop n).take k)).toArray t)) (Stp (StR N g m l0 cs0 W0) (NoR N g m l0 W0) (n+k)):=by
 obtain ⟨xs,lj,hrd,hR,L,hb,ha⟩:=h.r
 have hz:=h.mv.size
 have hgz:=hR.z
 have hN:N<=W.heap.size:=Nat.le_trans hR.hN (Nat.le_of_lt hgz)
 have hln:(((svI.drop n).take k).map (λi=>(⟨m,i⟩:Pq))).length=k:=by rw [List.length_map,ziD,hk,List.length_replicate]
 have hxl:xs.length=(svI.take n).length:=by
  rw [zii hrd,List.length_take,List.length_take];rfl
 have hlj:lj.length<=9223372036854775807:=by
  have h1:=congrArg List.length (zbw _ _ _ _ hrd).1
  rw [List.length_append] at h1
  omega
 have hk75:k<=75:=by
  have:((svI.drop n).take k).length=k:=by rw [ziD,hk,List.length_replicate]
  have h2:((svI.drop n).take k).length<=svI.length:=by rw [List.length_take,List.length_drop];omega
  have h3:svI.length=75:=rfl
  omega
 have hc:=H W.heap.size k lj (((svI.drop n).take k).map (λi=>(⟨m,i⟩:Pq))) (W.alloc (.cells (ptrs m ((svI.drop n).take k)).toArray t)) (hR.kept (stA (st0 W) _)) (by omega) (Sv.rpre hd hc0 t hb ha hz hgz) hlj (by rw [hln];omega)
 rw [hln] at hc
 refine hc.mono λe w' hE=>?_
 rcases hE with ⟨h1,h2,h3,h4⟩|⟨h1,ys,l',h2,h3⟩
 ·refine Or.inl ⟨h2,(zci (n:=n) (k:=k) hrd).1 (by rw [hk];rw [hln] at h1;exact h1),h.mv.back hN (h3.wide tq_m),(h.kx.trans (Kx.below (stA (st0 W) _))).trans h4⟩
 ·rw [hln] at h2
  have hys:=zbw _ _ _ _ h2
  refine Or.inr ⟨h1,⟨xs++ys,l',(zci (n:=n) (k:=k) hrd).2 ys l' (by rw [hk];exact h2),h3.r,_,h3.put m L hd.mg (hb.over _),?_⟩,h.mv.back hN (h3.mv.wide tq_m),(h.kx.trans (Kx.below (stA (st0 W) _))).trans h3.kx⟩
  rw [zfJ hxl,List.take_length]
  have hmv:Mv N (λk=>k=g \/ k=m) (λk=>k=g \/ k=m) W w':=(Mv.of_below hN (stA (st0 W) (.cells (ptrs m ((svI.drop n).take k)).toArray t))).trans (h3.mv.wide tq_m)
  refine ze7 _ _ _ _ _ (ha.move hmv (λk hk=>by
   rcases hk with rfl|rfl
   ·exact hd.gz
   ·exact hd.mz)) (zgX ys (λc hc=>?_))
  have:c.kd∈ys.map Ct.kd:=List.mem_map_of_mem hc
  rw [hys.2.2] at this
  rw [(List.mem_replicate.1 this).2]
  exact hK
theorem Sv.rstepL (f:Nat) (t:TypeId) (hd:Dst N g m W0) (hc0:cs0.length=75) (hl0:l0.length<=9223372036854775807)
 (H:∀ (B k cap:Nat) (l:List UInt8) (qs:List Pq) (W:World),Rr N g l W->k≠g->(∀ j q,qs[j]? = some q->Pq.at N g k j W q)->l.length<=9223372036854775807->qs.length<=100->(∀ k,Tq g qs k->k<B)->B<=W.heap.size->Calls Tryz.prog f #[pt g 0,.slice (some ⟨k,0,none⟩) qs.length cap] W λe w'=>RlEnd N g B qs l W e w')
 (W:World) (h:StR N g m l0 cs0 W0 30 W) :
 Calls Tryz.prog f #[pt g 0,.slice (some ⟨W.heap.size,0,none⟩) 5 5] (W.alloc (.cells (ptrs m ((svI.drop 30).take 5)).toArray t)) (Stp (StR N g m l0 cs0 W0) (NoR N g m l0 W0) 35):=by
 obtain ⟨xs,lj,hrd,hR,L,hb,ha⟩:=h.r
 have hz:=h.mv.size
 have hgz:=hR.z
 have hN:N<=W.heap.size:=Nat.le_trans hR.hN (Nat.le_of_lt hgz)
 have hxl:xs.length=(svI.take 30).length:=by
  rw [zii hrd,List.length_take,List.length_take];rfl
 have hlj:lj.length<=9223372036854775807:=by
  have h1:=congrArg List.length (zbw _ _ _ _ hrd).1
  rw [List.length_append] at h1
  omega
 have hB:∀ k,(k=g \/ k=m)->k<W0.heap.size:=λk hk=>by
  rcases hk with rfl|rfl
  ·exact hd.gz
  ·exact hd.mz
 have hc:=H W0.heap.size W.heap.size 5 lj (((svI.drop 30).take 5).map (λi=>(⟨m,i⟩:Pq))) (W.alloc (.cells (ptrs m ((svI.drop 30).take 5)).toArray t)) (hR.kept (stA (st0 W) _)) (by omega) (Sv.rpre hd hc0 t hb ha hz hgz) hlj (by rw [List.length_map];decide) (λk hk=>hB k (tq_m k hk)) (by simp;omega)
 refine hc.mono λe w' hE=>?_
 rcases hE with ⟨h1,h2,h3,h4⟩|⟨h1,ys,vs,l',h2,h3⟩
 ·exact Or.inl ⟨h2,(zci (n:=30) (k:=5) hrd).1 h1,h.mv.back hN (h3.wide tq_m),(h.kx.trans (Kx.below (stA (st0 W) _))).trans h4⟩
 ·refine Or.inr ⟨h1,⟨xs++ys,l',(zci (n:=30) (k:=5) hrd).2 ys l' h2,h3.r,_,h3.put m L hd.mg (hb.over _),?_⟩,h.mv.back hN (h3.mv.wide tq_m),(h.kx.trans (Kx.below (stA (st0 W) _))).trans h3.kx⟩
  have e:=zfJ (cs0:=cs0) (n:=30) (k:=5) (ys:=ys) hxl
  rw [show (30+5:Nat)=35 from rfl] at e
  rw [e,List.take_length]
  have hmv:Mv N (λk=>k=g \/ k=m) (λk=>k=g \/ k=m) W w':=(Mv.of_below hN (stA (st0 W) (.cells (ptrs m ((svI.drop 30).take 5)).toArray t))).trans (h3.mv.wide tq_m)
  exact ze7 _ _ _ _ _ (ha.move hmv hB) h3.ls.all2
theorem Sv.rcar (hd:Dst N g m W0) (hc0:cs0.length=75) (hl0:l0.length<=9223372036854775807):Car 158 g m 377 376 380 379 378 (StR N g m l0 cs0 W0) (NoR N g m l0 W0) where
 drew:=λn W h=>⟨by
  obtain ⟨xs,lj,hrd,hR,L,hb,ha⟩:=h.r
  refine ⟨xs,lj,hrd,hR.kept (st0 W).drew,L,hb.drew,?_⟩
  exact ha.move (T:=λ_=>False) (Mv.of_below (B:=N) (Nat.le_trans hR.hN (Nat.le_of_lt hR.z)) (st0 W).drew) (λk hk=>False.elim hk),h.mv.drew,h.kx.trans (Kx.below (st0 W).drew)⟩
 eb:=λ_ _=>rfl
 eo:=λ_ _=>rfl
 ew:=λ_ _=>rfl
 en:=λ_ _=>rfl
 el:=λ_ _=>rfl
 mb:=λ_=>by kernel_rfl
 mo:=λ_=>by kernel_rfl
 mw:=λ_=>by kernel_rfl
 mn:=λ_=>by kernel_rfl
 ml:=λ_=>by kernel_rfl
 nb:=λ_=>by kernel_rfl
 no:=λ_=>by kernel_rfl
 nw:=λ_=>by kernel_rfl
 nn:=λ_=>by kernel_rfl
 nl:=λ_=>by kernel_rfl
 sb:=Sv.rstep .u8 _ _ (by intro h;cases h) hd hc0 hl0 (λk cap l qs W h hk hp hl hq=>Sv.rbytes N g k cap l qs W h hk hp hl hq)
 so:=Sv.rstep .bo _ _ (by intro h;cases h) hd hc0 hl0 (λk cap l qs W h hk hp hl hq=>Sv.rbools N g k cap l qs W h hk hp hl hq)
 sw:=Sv.rstep .u16 _ _ (by intro h;cases h) hd hc0 hl0 (λk cap l qs W h hk hp hl hq=>Sv.rwords N g k cap l qs W h hk hp hl hq)
 sn:=Sv.rstep .num _ _ (by intro h;cases h) hd hc0 hl0 (λk cap l qs W h hk hp hl hq=>Sv.rnumbers N g k cap l qs W h hk hp hl hq)
 sl:=Sv.rstepL _ _ hd hc0 hl0 (λB k cap l qs W h hk hp hl hq hB hBW=>Sv.rlists N g B k cap l qs W h hk hp hl hq hB hBW)
end
end Go.Proofs.YtbennamieealbaaGreatDoor
