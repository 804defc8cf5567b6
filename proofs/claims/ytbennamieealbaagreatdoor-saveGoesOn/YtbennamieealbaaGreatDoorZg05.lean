/-
  Parts of a proof, joined.
-/
import Derived.Test.YtbennamieealbaaGreatDoorZg01
import Derived.Test.YtbennamieealbaaGreatDoorZg04
import Derived.Test.YtbennamieealbaaGreatDoorZg03
import Derived.Deep.AppendLies
import Derived.Deep.DeepCutAuto
set_option linter.unusedVariables false
set_option maxRecDepth 100000
set_option maxHeartbeats 1600000
namespace Go.Proofs.YtbennamieealbaaGreatDoor
open Go.ChangeShapes Go.WideShapes Go.ChangeAt Go.RowKit
def SaTw (g:Nat) (v:Value) (k:Nat):Prop:=k=g \/ v.ownBlock=some k
structure Wr (g : Nat) (xs : List UInt8) (v : Value) (W : World) : Prop where
 b:Bx W g [v]
 o:W.ownsRow (g+1) 5 1 v xs.length (bcs xs)
section
variable {g : Nat} {xs ys : List UInt8} {v : Value} {W w1 : World}
theorem Wr.kept (h:Wr g xs v W) (hb:Below W.heap.size W w1):Wr g xs v w1:=⟨h.b.kept hb,zeZ h.o hb⟩
theorem Wr.drew (h:Wr g xs v W):Wr g xs v W.drew:=h.kept (st0 W).drew
theorem Wr.over (h:Wr g xs v W) (o:Obj):Wr g xs v (W.alloc o):=h.kept (stA (st0 W) o)
theorem Wr.far (h:Wr g xs v W):∀ k,SaTw g v k->g<=k/\k<W.heap.size:=λk hk=>by
 rcases hk with rfl|hk
 ·exact ⟨Nat.le_refl _,h.b.z⟩
 ·have:=h.o.lt k hk
  exact ⟨by omega,this.2⟩
theorem Wr.new (h:Wr g xs v W) {k:Nat} (hk:W.heap.size<=k):¬ SaTw g v k:=λht=>by have:=(h.far k ht).2;omega
theorem Wr.low (h:Wr g xs v W) {k:Nat} (hk:k<g):¬ SaTw g v k:=λht=>by have:=(h.far k ht).1;omega
theorem Wr.slice (h:Wr g xs v W):∃ a c,v = .slice a xs.length c:=zaF (zaL h.o)
theorem Wr.grow {l:List UInt8} {w3:World} {gg n cap:Nat} (h:Wr g ys v W) (hown:w3.ownsRow (g+1) 5 1 (.slice (some ⟨gg,0,none⟩) n cap) n (bcs ys++bcs l)) (hn:n=ys.length+l.length) (hg:W.grownBy w3 v.ownBlock) (hor:v.ownBlock=some gg \/ gg=W.heap.size) :
 Wr g (ys++l) (.slice (some ⟨gg,0,none⟩) n cap) (w3.setCell ⟨g,0,none⟩ (.slice (some ⟨gg,0,none⟩) n cap))/\Mv g (SaTw g v) (SaTw g (.slice (some ⟨gg,0,none⟩) n cap)) W (w3.setCell ⟨g,0,none⟩ (.slice (some ⟨gg,0,none⟩) n cap)):=by
 have hne:gg≠g:=by
  have:=(hown.lt gg rfl).1
  omega
 have hgo:some g≠v.ownBlock:=λe=>by have:=(h.o.lt g e.symm).1;omega
 have hb3:Bx w3 g [v]:=h.b.same hg.size (hg.block g h.b.z hgo)
 have hn2:n=(ys++l).length:=by rw [List.length_append,hn]
 subst hn2
 refine ⟨⟨hb3.set 0 _ (by simp),?_⟩,?_,?_,?_⟩
 ·refine zbs (w:=w3) (by rw [<- zbi];exact hown) (λk hk=>Below.heap_setCell _ _ _ _ (λe=>?_))
  cases hk
  exact hne e
 ·exact (ze0 hg (Nat.le_of_lt h.b.z) (λk hk=>by have:=(h.o.lt k hk).1;omega)).setCell (Nat.le_refl _) _
 ·intro k hk ht
  rw [Below.heap_setCell _ _ _ _ (λe=>ht (Or.inl e))]
  exact hg.block k hk (λe=>ht (Or.inr e.symm))
 ·intro k hk
  rcases hk with rfl|hk
  ·exact Or.inl (Or.inl rfl)
  ·cases hk
   rcases hor with e|e
   ·exact Or.inl (Or.inr e)
   ·exact Or.inr (Nat.le_of_eq e.symm)
theorem Wr.app {x:Int} {w3:World} {gg cap:Nat} (h:Wr g ys v W) (hown:w3.ownsRow (g+1) 5 1 (.slice (some ⟨gg,0,none⟩) (ys.length+1) cap) (ys.length+1) (bcs ys++[.int .u8 x])) (hg:W.grownBy w3 v.ownBlock) (hor:v.ownBlock=some gg \/ gg=W.heap.size) :
 w3.cell? ⟨g,0,none⟩=some v/\(∀ k o,k<W.heap.size->¬ SaTw g v k->w3.cell? ⟨k,o,none⟩=W.cell? ⟨k,o,none⟩)/\g<w3.heap.size/\w3.frozen? ⟨g,0,none⟩=false /\
 (0<=x/\x<=255->Wr g (ys++[b8 x]) (.slice (some ⟨gg,0,none⟩) (ys.length+1) cap) (w3.setCell ⟨g,0,none⟩ (.slice (some ⟨gg,0,none⟩) (ys.length+1) cap))/\Mv g (SaTw g v) (SaTw g (.slice (some ⟨gg,0,none⟩) (ys.length+1) cap)) W (w3.setCell ⟨g,0,none⟩ (.slice (some ⟨gg,0,none⟩) (ys.length+1) cap))):=by
 have hgo:some g≠v.ownBlock:=λe=>by have:=(h.o.lt g e.symm).1;omega
 have hb3:Bx w3 g [v]:=h.b.same hg.size (hg.block g h.b.z hgo)
 refine ⟨hb3.at 0 _ rfl,λk o hk ht=>World.cell?_of_block (w:=W) (hg.block k hk (λe=>ht (Or.inr e.symm))),hb3.z,hb3.f 0,λhx=>?_⟩
 have e:[Value.int .u8 x]=bcs [b8 x]:=by simp [bcs,zgQ hx]
 rw [e] at hown
 exact h.grow hown (by simp) hg hor
end
theorem new1 (w:World) (x:Int) (t:TypeId) {b:Nat} (hb:b=w.heap.size):∀ j u,([Value.int .u8 x]:List Value)[j]? = some u->(w.alloc (.cells #[.int .u8 x] t)).cell? ((⟨b,0,none⟩:Addr).add j)=some u:=λj u hj=>by
 match j,hj with
 | 0,hj =>
  simp only [List.getElem?_cons_zero,Option.some.injEq] at hj
  subst hj hb
  rw [addr_add]
  exact (Pl.new _ _ _ _ rfl).trans rfl
theorem one1 (x:Int):∀ u∈([Value.int .u8 x]:List Value),u.oneCell'=true:=λu hu=>by
 rcases List.mem_singleton.1 hu with rfl
 rfl
structure Pb where
 b:Nat
 o:Nat
 x:Int
structure Pb.at (g : Nat) (v : Value) (k j : Nat) (W : World) (p : Pb) : Prop where
 q:W.cell? ⟨k,j,none⟩=some (pt p.b p.o)
 c:W.cell? ⟨p.b,p.o,none⟩=some (.int .u8 p.x)
 t:¬ SaTw g v p.b
 bd:0<=p.x/\p.x<=255
theorem Sv.wbytes (g k cap:Nat) (xs:List UInt8) (v:Value) (ps:List Pb) (W:World) (h:Wr g xs v W) (hk:¬ SaTw g v k) (hp:∀ j p,ps[j]? = some p->Pb.at g v k j W p) (hl:xs.length+ps.length<=50000) :
 Calls Tryz.prog 372 #[pt g 0,.slice (some ⟨k,0,none⟩) ps.length cap] W λe w'=>e = .returned (.tuple #[]) /\ ∃ v',Wr g (xs++ps.map (λp=>b8 p.x)) v' w'/\Mv g (SaTw g v) (SaTw g v') W w':=by
 obtain ⟨i0,hi0,hz0,hz1,hz2⟩:=info_parts za4
 have H:=hid h
 have HP:=hid hp
 have HK:=hid hk
 clear h hp hk
 go_enter Tryz.func372,Tryz.ntmps372
 go_wp2
 go_loopw [8] (λi wr=>∃ (j:Nat) (v1:Value),j<=ps.length/\i = .int .i64 j/\Wr g (xs++(ps.take j).map (λp=>b8 p.x)) v1 wr/\Mv g (SaTw g v) (SaTw g v1) W wr) (λi _=>ps.length-(intOf i).toNat)
 case atStart=>exact ⟨0,v,Nat.zero_le _,rfl,by simpa using H.out,Mv.refl _ _ _⟩
 case round =>
  obtain ⟨j,v1,hj,rfl,hR,hM⟩:=hrel
  obtain ⟨ys,hys⟩:∃ ys,ys=xs++(ps.take j).map (λp=>b8 p.x):=⟨_,rfl⟩
  rw [<- hys] at hR
  by_cases hlt:j<ps.length
  ·obtain ⟨p,hpj⟩:∃ p,ps[j]? = some p:=⟨_,List.getElem?_eq_getElem hlt⟩
   have hq:=HP.out j p hpj
   have hkz:k<W.heap.size:=World.block_lt_of_cell? W _ hq.q
   have hpz:p.b<W.heap.size:=World.block_lt_of_cell? W _ hq.c
   have c2:wr.cell? ⟨k,j,none⟩=some (pt p.b p.o):=(hM.cell hkz HK.out j).trans hq.q
   have c1:wr.cell? ⟨p.b,p.o,none⟩=some (.int .u8 p.x):=(hM.cell hpz hq.t p.o).trans hq.c
   have hkz2:=Nat.lt_of_lt_of_le hkz hM.size
   have hpz2:=Nat.lt_of_lt_of_le hpz hM.size
   have hyl:ys.length<=50000:=by rw [hys,List.length_append,List.length_map,List.length_take];omega
   have hys2:xs++(ps.take (j+1)).map (λp=>b8 p.x)=ys++[b8 p.x]:=by rw [hys,List.take_add_one,hpj,List.map_append,List.append_assoc];rfl
   have HYS:=hid hys2
   have HX:=hid hq.bd
   have ht1:¬ SaTw g v1 p.b:=λht=>by
    rcases hM.fresh _ ht with x|x
    ·exact hq.t x
    ·omega
   have HT1:=hid ht1
   obtain ⟨ua,uc,e⟩:=hR.slice
   subst e
   have c0:=hR.b.at 0 _ rfl
   have HA:=hid (hR.drew.over (.cells #[.int .u8 p.x] 5))
   have hc1a:((wr.drew).alloc (.cells #[.int .u8 p.x] 5)).cell? ⟨p.b,p.o,none⟩=some (.int .u8 p.x):=by rw [<- c1];exact (stA (st0 wr).drew _).cell (p:=⟨p.b,p.o,none⟩) hpz2
   have c1a:=hc1a
   have hgz:=hR.b.z
   have HR:=hid hR
   have HM:=hid hM
   have hjl:(j:Int)<ps.length:=by omega
   have hj0:(0:Int)<=j:=by omega
   have hpl:(ps.length:Int)<=50000:=by omega
   clear hq hR hM hys hys2 hpj hc1a ht1
   go_upto_region 3 with fail
   refine zac (S:=λw'=>w'.cell? ⟨g,0,none⟩=some (.slice ua ys.length uc)/\w'.cell? ⟨p.b,p.o,none⟩=some (.int .u8 p.x)) (st:=12) (by kernel_rfl) ?_
   have hS:wr.drew.cell? ⟨g,0,none⟩=some (.slice ua ys.length uc)/\wr.drew.cell? ⟨p.b,p.o,none⟩=some (.int .u8 p.x):=⟨c0,c1⟩
   refine tqG 0 ⟨some 12,_,_,_,_,none⟩ (λ_=>hS) ?_
   simp only [Act.put,xA,xB,xC]
   refine tqG 1 ⟨some 13,_,_,_,_,none⟩ (λ_=>hS) ?_
   simp only [Act.put,xA,xB,xC]
   refine tqG 2 ⟨some 14,_,_,_,_,none⟩ (λ_=>hS) ?_
   simp only [Act.put,xA,xB,xC]
   refine tqG 3 ⟨some 15,_,_,_,_,none⟩ (λ_=>hS) ?_
   simp only [Act.put,xA,xB,xC]
   refine tqG 5 ⟨some 17,_,_,_,_,none⟩ (λ_=>hS) ?_
   simp only [Act.put,xA,xB,xC]
   refine tqG 6 ⟨some 18,_,_,_,_,none⟩ (λ_=>hS) ?_
   simp only [Act.put,xA,xB,xC]
   refine zaf (i:=4) (oi:=⟨some 16,_,_,_,_,none⟩) (v:=.slice ua ys.length uc) rfl (by kernel_rfl) (by kernel_rfl) (by kernel_rfl) (by kernel_rfl) (by decide) (by kernel_rfl) (λ_ _ _ h=>h) (Or.inl ⟨by rfl,?_⟩) hS ?_
   ·intro w' hSw
    have hcc:=hSw.1
    have hcz:=World.block_lt_of_cell? w' _ hcc
    go_simp
    try (with_reducible rfl)
   simp only [Act.put,xA,xB,xC]
   refine zaf (i:=7) (oi:=⟨some 19,_,_,_,_,none⟩) (v:=.int .u8 p.x) rfl (by kernel_rfl) (by kernel_rfl) (by kernel_rfl) (by kernel_rfl) (by decide) (by kernel_rfl) (λ_ _ _ h=>h) (Or.inl ⟨by rfl,?_⟩) hS ?_
   ·intro w' hSw
    have hcc:=hSw.2
    have hcz:=World.block_lt_of_cell? w' _ hcc
    go_simp
    try (with_reducible rfl)
   simp only [Act.put,xA,xB,xC]
   clear hS
   refine zaa (i:=8) (o:=⟨some 20,_,_,_,_,none⟩) (by kernel_rfl) rfl (λK hK=>?_)
   go_simp
   refine hK.out _ _ (λ_=>⟨HA.out.b.at 0 _ rfl,c1a⟩) ?_
   clear hK K
   try simp only [Act.put,xA,xB,xC]
   refine zaa (i:=9) (o:=⟨some 21,_,_,_,_,none⟩) (by kernel_rfl) rfl (λK hK=>?_)
   refine step_append_lies _ (by rfl) (.tmp 16) (.tmp 20) 26 (by rfl) (g+1) 5 i0 _ 1 1 Tryz.underlying26 hi0 hz0 hz1 hz2 rfl (by omega) (.slice ua ys.length uc) ys.length (bcs ys) rfl HA.out.o ⟨wr.heap.size,0,none⟩ 1 1 [.int .u8 p.x] rfl rfl (new1 _ _ _ (by simp)) (one1 _) (by omega) (by unfold maxLen;omega) (by omega) HA.out.b.z _ rfl ?_
   intro gg cap w3 hown hgrow hor hz3
   have HW:=hid (HA.out.app (x:=p.x) (by exact hown) hgrow hor)
   have c1b:=(HW.out.2.1 p.b p.o (by simp;omega) HT1.out).trans c1a
   have c0b:=HW.out.1
   have gzb:=HW.out.2.2.1
   have gfb:=HW.out.2.2.2.1
   refine hK.out _ _ (λ_=>⟨c0b,c1b⟩) ?_
   clear hK K
   try simp only [Act.put,xA,xB,xC]
   refine tqG 10 ⟨some 22,_,_,_,_,none⟩ (λ_=>⟨c0b,c1b⟩) ?_
   simp only [Act.put,xA,xB,xC]
   refine tqG 11 ⟨some 23,_,_,_,_,none⟩ (λ_=>⟨c0b,c1b⟩) ?_
   simp only [Act.put,xA,xB,xC]
   refine zaa (i:=12) (o:=⟨none,_,_,_,_,none⟩) (by kernel_rfl) rfl (λK hK=>?_)
   go_simp
   refine hK.out _ _ (λh=>by cases h) ?_
   clear hK K
   try simp only [Act.put,xA,xB,xC]
   refine zab (by kernel_rfl) ?_ _
   obtain ⟨q1,q2⟩:=HW.out.2.2.2.2 HX.out
   have q3:=(Mv.of_below (T:=SaTw g (.slice ua ys.length uc)) (Nat.le_of_lt hgz) (stA (st0 wr).drew _)).trans q2
   go_wp2
   exact ⟨⟨j+1,_,by omega,by simp,by rw [HYS.out];exact q1,HM.out.trans q3⟩,by simp [intOf];omega⟩
  ·have hj2:j=ps.length:=by omega
   subst hj2
   have hnl:¬ (ps.length:Int)<ps.length:=by omega
   rw [List.take_length] at hys
   have HR:=hid hR
   have HM:=hid hM
   have HYS:=hid hys
   clear hR hM hys
   go_wp2
   go_end0
   exact ⟨rfl,v1,by rw [<- HYS.out];exact HR.out,HM.out⟩
def Ct.val:Ct->Value
 | .u8 n=>.int .u8 n
 | .bo b=>.bool b
 | .u16 n=>.int .u16 n
 | .num n=>.int .i64 n
 | .lst _=>undef
structure Pc where
 b:Nat
 o:Nat
 c:Ct
structure Pc.at (K : Kd) (T : Nat -> Prop) (k j : Nat) (W : World) (p : Pc) : Prop where
 q:W.cell? ⟨k,j,none⟩=some (pt p.b p.o)
 v:W.cell? ⟨p.b,p.o,none⟩=some p.c.val
 t:¬ T p.b
 ok:p.c.ok
 kd:p.c.kd=K
def cts (ps:List Pc):List Ct:=ps.map Pc.c
theorem ze2 {ps:List Pc} {j:Nat} {p:Pc} (h:ps[j]? = some p):cts (ps.take (j+1))=cts (ps.take j)++[p.c]:=by
 unfold cts
 rw [List.take_add_one,h,List.map_append];rfl
theorem zcH (c:Ct):wrL [c]=c.wr:=by simp [wrL]
theorem kd_u8 {c:Ct} (h:c.kd = .u8):∃ n,c = .u8 n:=by cases c <;> first|exact ⟨_,rfl⟩|cases h
theorem kd_bo {c:Ct} (h:c.kd = .bo):∃ n,c = .bo n:=by cases c <;> first|exact ⟨_,rfl⟩|cases h
theorem zoh {c:Ct} (h:c.kd = .u16):∃ n,c = .u16 n:=by cases c <;> first|exact ⟨_,rfl⟩|cases h
theorem zoi {c:Ct} (h:c.kd = .num):∃ n,c = .num n:=by cases c <;> first|exact ⟨_,rfl⟩|cases h
def Kd.len:Kd->Nat
 | .u8=>1
 | .bo=>1
 | .u16=>2
 | .num=>4
 | .lst=>0
theorem zoj {K:Kd} {c:Ct} (h:c.kd=K) (hl:K ≠ .lst):c.wr.length=K.len:=by
 subst h
 cases c <;> first|rfl|exact absurd rfl hl
theorem zdf {K:Kd} (hl:K ≠ .lst):∀ xs:List Ct,(∀ c∈xs,c.kd=K)->(wrL xs).length=K.len*xs.length
 | [],h=>rfl
 | c::xs,h=>by
  rw [wrL,List.length_append,zoj (h c List.mem_cons_self) hl,zdf hl xs (λx hx=>h x (List.mem_cons_of_mem _ hx)),List.length_cons,Nat.mul_succ]
  omega
theorem zij {K:Kd} {T:Nat->Prop} {k:Nat} {W:World} {ps:List Pc} (hp:∀ j p,ps[j]? = some p->Pc.at K T k j W p) (j:Nat):∀ c∈cts (ps.take j),c.kd=K:=λc hc=>by
 obtain ⟨p,hp1,rfl⟩:=List.mem_map.1 hc
 obtain ⟨i,hi⟩:=List.mem_iff_getElem?.1 (List.mem_of_mem_take hp1)
 exact (hp i p hi).kd
theorem Sv.wbyte (g k cap:Nat) (xs:List UInt8) (v:Value) (ps:List Pc) (W:World) (h:Wr g xs v W) (hk:¬ SaTw g v k) (hp:∀ j p,ps[j]? = some p->Pc.at .u8 (SaTw g v) k j W p) (hl:xs.length+ps.length<=50000) :
 Calls Tryz.prog 372 #[pt g 0,.slice (some ⟨k,0,none⟩) ps.length cap] W λe w'=>e = .returned (.tuple #[]) /\ ∃ v',Wr g (xs++wrL (cts ps)) v' w'/\Mv g (SaTw g v) (SaTw g v') W w':=by
 let f:Pc->Pb:=λp=>⟨p.b,p.o,match p.c with | .u8 n=>n|_=>0⟩
 have hq:∀ j p,(ps.map f)[j]? = some p->Pb.at g v k j W p:=λj p hj=>by
  rw [List.getElem?_map,Option.map_eq_some_iff] at hj
  obtain ⟨q,hj,rfl⟩:=hj
  have h1:=hp j q hj
  obtain ⟨n,hn⟩:=kd_u8 h1.kd
  obtain ⟨b,o,c⟩:=q
  simp only at hn
  subst hn
  exact ⟨h1.q,h1.v,h1.t,h1.ok⟩
 have he:(ps.map f).map (λp=>b8 p.x)=wrL (cts ps):=by
  have:∀ l:List Pc,(∀ p∈l,p.c.kd = .u8)->(l.map f).map (λp=>b8 p.x)=wrL (cts l):=λl=>by
   induction l with
   | nil=>intro _;rfl
   | cons p l ih =>
    intro hk
    obtain ⟨n,hn⟩:=kd_u8 (hk p List.mem_cons_self)
    obtain ⟨b,o,c⟩:=p
    simp only at hn
    subst hn
    have:=ih (λq hq=>hk q (List.mem_cons_of_mem _ hq))
    simp only [List.map_cons,this]
    rfl
  exact this ps (λp hm=>by
   obtain ⟨i,hi⟩:=List.mem_iff_getElem?.1 hm
   exact (hp i p hi).kd)
 have:=Sv.wbytes g k cap xs v (ps.map f) W h hk hq (by rw [List.length_map];exact hl)
 rw [List.length_map] at this
 refine this.mono λe w' ⟨he1,v',h1,h2⟩=>⟨he1,v',by rw [<- he];exact h1,h2⟩
section
variable {g : Nat} {ys : List UInt8} {v1 : Value} {wr : World}
theorem zat (w:World) (cs:Array Value) (t:TypeId) (k j:Nat) (hk:k=w.heap.size):(w.alloc (.cells cs t)).cell? ⟨k,j,none⟩=cs[j]?:=Pl.new w cs t k hk
theorem zaX (w:World) (o:Obj) {k j:Nat} {x:Value} (h:w.cell? ⟨k,j,none⟩=some x):(w.alloc o).cell? ⟨k,j,none⟩=some x:=((stA (st0 w) o).cell (p:=⟨k,j,none⟩) (World.block_lt_of_cell? w _ h)).trans h
theorem Sv.one (K:Kd) (f:Nat) (c:Ct) (t t2:TypeId) (hkd:c.kd=K) (hok:c.ok) (h:Wr g ys v1 wr) (R:World->Value->Prop)
 (H:∀ (k cap:Nat) (ps:List Pc) (W:World),Wr g ys v1 W->¬ SaTw g v1 k->(∀ j p,ps[j]? = some p->Pc.at K (SaTw g v1) k j W p)->ps=[⟨wr.heap.size,0,c⟩]->Calls Tryz.prog f #[pt g 0,.slice (some ⟨k,0,none⟩) ps.length cap] W λe w'=>e = .returned (.tuple #[]) /\ ∃ v',Wr g (ys++wrL (cts ps)) v' w'/\Mv g (SaTw g v1) (SaTw g v') W w') :
 Calls Tryz.prog f #[pt g 0,.slice (some ⟨wr.heap.size+1,0,none⟩) 1 1] ((wr.alloc (.cells #[c.val] t)).alloc (.cells #[pt wr.heap.size 0] t2)) λe w'=>e = .returned (.tuple #[]) /\ ∃ v',Wr g (ys++c.wr) v' w'/\Mv g (SaTw g v1) (SaTw g v') wr w':=by
 refine (H (wr.heap.size+1) 1 [⟨wr.heap.size,0,c⟩] _ ((h.over _).over _) (h.new (by omega)) (λj p hj=>?_) rfl).mono λe w' ⟨he,v',h1,h2⟩=>⟨he,v',?_,?_⟩
 ·match j,hj with
  | 0,hj =>
   simp only [List.getElem?_cons_zero,Option.some.injEq] at hj
   subst hj
   exact ⟨(zat _ _ _ _ _ (by simp)).trans rfl,zaX _ _ ((zat _ _ _ _ _ rfl).trans rfl),h.new (Nat.le_refl _),hok,hkd⟩
 ·rw [show cts [⟨wr.heap.size,0,c⟩]=[c] from rfl,zcH] at h1
  exact h1
 ·exact (Mv.of_below (Nat.le_of_lt h.b.z) (stA (stA (st0 wr) _) _)).trans h2
theorem Sv.two (K:Kd) (f:Nat) (c d:Ct) (t t2:TypeId) (hkc:c.kd=K) (hoc:c.ok) (hkd:d.kd=K) (hod:d.ok) (h:Wr g ys v1 wr)
 (H:∀ (k cap:Nat) (ps:List Pc) (W:World),Wr g ys v1 W->¬ SaTw g v1 k->(∀ j p,ps[j]? = some p->Pc.at K (SaTw g v1) k j W p)->ps=[⟨wr.heap.size,0,c⟩,⟨wr.heap.size+1,0,d⟩]->Calls Tryz.prog f #[pt g 0,.slice (some ⟨k,0,none⟩) ps.length cap] W λe w'=>e = .returned (.tuple #[]) /\ ∃ v',Wr g (ys++wrL (cts ps)) v' w'/\Mv g (SaTw g v1) (SaTw g v') W w') :
 Calls Tryz.prog f #[pt g 0,.slice (some ⟨wr.heap.size+1+1,0,none⟩) 2 2] (((wr.alloc (.cells #[c.val] t)).alloc (.cells #[d.val] t)).alloc (.cells #[pt wr.heap.size 0,pt (wr.heap.size+1) 0] t2)) λe w'=>e = .returned (.tuple #[]) /\ ∃ v',Wr g (ys++(c.wr++d.wr)) v' w'/\Mv g (SaTw g v1) (SaTw g v') wr w':=by
 refine (H (wr.heap.size+1+1) 2 [⟨wr.heap.size,0,c⟩,⟨wr.heap.size+1,0,d⟩] _ (((h.over _).over _).over _) (h.new (by omega)) (λj p hj=>?_) rfl).mono λe w' ⟨he,v',h1,h2⟩=>⟨he,v',?_,?_⟩
 ·match j,hj with
  | 0,hj =>
   simp only [List.getElem?_cons_zero,Option.some.injEq] at hj
   subst hj
   exact ⟨(zat _ _ _ _ _ (by simp)).trans rfl,zaX _ _ (zaX _ _ ((zat _ _ _ _ _ rfl).trans rfl)),h.new (Nat.le_refl _),hoc,hkc⟩
  | 1,hj =>
   simp only [List.getElem?_cons_zero,List.getElem?_cons_succ,Option.some.injEq] at hj
   subst hj
   exact ⟨(zat _ _ _ _ _ (by simp)).trans rfl,zaX _ _ ((zat _ _ _ _ _ (by simp)).trans rfl),h.new (by simp),hod,hkd⟩
 ·rw [show cts [⟨wr.heap.size,0,c⟩,⟨wr.heap.size+1,0,d⟩]=[c,d] from rfl,show wrL [c,d]=c.wr++d.wr by simp [wrL]] at h1
  exact h1
 ·exact (Mv.of_below (Nat.le_of_lt h.b.z) (stA (stA (stA (st0 wr) _) _) _)).trans h2
end
theorem Sv.wbools (g k cap:Nat) (xs:List UInt8) (v:Value) (ps:List Pc) (W:World) (h:Wr g xs v W) (hk:¬ SaTw g v k) (hp:∀ j p,ps[j]? = some p->Pc.at .bo (SaTw g v) k j W p) (hl:xs.length+1*ps.length<=50000) :
 Calls Tryz.prog 371 #[pt g 0,.slice (some ⟨k,0,none⟩) ps.length cap] W λe w'=>e = .returned (.tuple #[]) /\ ∃ v',Wr g (xs++wrL (cts ps)) v' w'/\Mv g (SaTw g v) (SaTw g v') W w':=by
 have H:=hid h
 have HP:=hid hp
 have HK:=hid hk
 clear h hp hk
 go_enter Tryz.func371,Tryz.ntmps371
 go_wp2
 go_loopw [9] (λi wr=>∃ (j:Nat) (v1:Value),j<=ps.length/\i = .int .i64 j/\Wr g (xs++wrL (cts (ps.take j))) v1 wr/\Mv g (SaTw g v) (SaTw g v1) W wr) (λi _=>ps.length-(intOf i).toNat)
 case atStart=>exact ⟨0,v,Nat.zero_le _,rfl,by simpa [cts,wrL] using H.out,Mv.refl _ _ _⟩
 case round =>
  obtain ⟨j,v1,hj,rfl,hR,hM⟩:=hrel
  obtain ⟨ys,hys⟩:∃ ys,ys=xs++wrL (cts (ps.take j)):=⟨_,rfl⟩
  rw [<- hys] at hR
  by_cases hlt:j<ps.length
  ·obtain ⟨p,hpj⟩:∃ p,ps[j]? = some p:=⟨_,List.getElem?_eq_getElem hlt⟩
   have hq:=HP.out j p hpj
   have hkz:k<W.heap.size:=World.block_lt_of_cell? W _ hq.q
   have hpz:p.b<W.heap.size:=World.block_lt_of_cell? W _ hq.v
   have c2:wr.cell? ⟨k,j,none⟩=some (pt p.b p.o):=(hM.cell hkz HK.out j).trans hq.q
   obtain ⟨n,hn⟩:=kd_bo hq.kd
   have c1:wr.cell? ⟨p.b,p.o,none⟩=some (.bool n):=((hM.cell hpz hq.t p.o).trans hq.v).trans (by rw [hn];rfl)
   have hkz2:=Nat.lt_of_lt_of_le hkz hM.size
   have hpz2:=Nat.lt_of_lt_of_le hpz hM.size
   have hyl:ys.length+1<=50000:=by
    rw [hys,List.length_append,zdf (K:=.bo) (by intro h;cases h) _ (zij HP.out j)]
    simp only [cts,List.length_map,List.length_take,Kd.len]
    omega
   have hys2:xs++wrL (cts (ps.take (j+1)))=ys++(Ct.bo n).wr:=by rw [hys,ze2 hpj,zbl,zcH,hn,List.append_assoc]
   have HYS:=hid hys2
   have hok:=hq.ok
   rw [hn] at hok
   have hgz:=hR.b.z
   have HR:=hid hR
   have HM:=hid hM
   have hjl:(j:Int)<ps.length:=by omega
   have hj0:(0:Int)<=j:=by omega
   have hpl:(ps.length:Int)<=50000:=by omega

   clear hq hR hM hys hys2 hpj hn

   cases n with
   | true =>
    have HQ1:=hid (Sv.one (ys:=ys) (wr:=wr) .u8 372 (.u8 1) 5 207 rfl ⟨by omega,by omega⟩ HR.out (λ_ _=>True) (λk cap ps W h hk hp e=>Sv.wbyte g k cap ys v1 ps W h hk hp (by rw [e];show ys.length+1<=50000;omega)))
    go_wp2_with (go_at_call 372;refine HQ1.out.mono ?_;rintro e w1 ⟨rfl,v2,q1,q2⟩;have HQ:Hid (Wr g (ys++(Ct.bo true).wr) v2 w1/\Mv g (SaTw g v1) (SaTw g v2) wr w1):=hid ⟨q1,q2⟩;clear q1 q2)
    exact ⟨⟨j+1,_,by omega,by simp,by rw [HYS.out];exact HQ.out.1,HM.out.trans HQ.out.2⟩,by simp [intOf];omega⟩
   | false =>
    have HQ1:=hid (Sv.one (ys:=ys) (wr:=wr) .u8 372 (.u8 0) 5 207 rfl ⟨by omega,by omega⟩ HR.out (λ_ _=>True) (λk cap ps W h hk hp e=>Sv.wbyte g k cap ys v1 ps W h hk hp (by rw [e];show ys.length+1<=50000;omega)))
    go_wp2_with (go_at_call 372;refine HQ1.out.mono ?_;rintro e w1 ⟨rfl,v2,q1,q2⟩;have HQ:Hid (Wr g (ys++(Ct.bo false).wr) v2 w1/\Mv g (SaTw g v1) (SaTw g v2) wr w1):=hid ⟨q1,q2⟩;clear q1 q2)
    exact ⟨⟨j+1,_,by omega,by simp,by rw [HYS.out];exact HQ.out.1,HM.out.trans HQ.out.2⟩,by simp [intOf];omega⟩
  ·have hj2:j=ps.length:=by omega
   subst hj2
   have hnl:¬ (ps.length:Int)<ps.length:=by omega
   rw [List.take_length] at hys
   have HR:=hid hR
   have HM:=hid hM
   have HYS:=hid hys
   clear hR hM hys
   go_wp2
   go_end0
   exact ⟨rfl,v1,by rw [<- HYS.out];exact HR.out,HM.out⟩
theorem Sv.wwords (g k cap:Nat) (xs:List UInt8) (v:Value) (ps:List Pc) (W:World) (h:Wr g xs v W) (hk:¬ SaTw g v k) (hp:∀ j p,ps[j]? = some p->Pc.at .u16 (SaTw g v) k j W p) (hl:xs.length+2*ps.length<=50000) :
 Calls Tryz.prog 375 #[pt g 0,.slice (some ⟨k,0,none⟩) ps.length cap] W λe w'=>e = .returned (.tuple #[]) /\ ∃ v',Wr g (xs++wrL (cts ps)) v' w'/\Mv g (SaTw g v) (SaTw g v') W w':=by
 have H:=hid h
 have HP:=hid hp
 have HK:=hid hk
 clear h hp hk
 go_enter Tryz.func375,Tryz.ntmps375
 go_wp2
 go_loopw [10] (λi wr=>∃ (j:Nat) (v1:Value),j<=ps.length/\i = .int .i64 j/\Wr g (xs++wrL (cts (ps.take j))) v1 wr/\Mv g (SaTw g v) (SaTw g v1) W wr) (λi _=>ps.length-(intOf i).toNat)
 case atStart=>exact ⟨0,v,Nat.zero_le _,rfl,by simpa [cts,wrL] using H.out,Mv.refl _ _ _⟩
 case round =>
  obtain ⟨j,v1,hj,rfl,hR,hM⟩:=hrel
  obtain ⟨ys,hys⟩:∃ ys,ys=xs++wrL (cts (ps.take j)):=⟨_,rfl⟩
  rw [<- hys] at hR
  by_cases hlt:j<ps.length
  ·obtain ⟨p,hpj⟩:∃ p,ps[j]? = some p:=⟨_,List.getElem?_eq_getElem hlt⟩
   have hq:=HP.out j p hpj
   have hkz:k<W.heap.size:=World.block_lt_of_cell? W _ hq.q
   have hpz:p.b<W.heap.size:=World.block_lt_of_cell? W _ hq.v
   have c2:wr.cell? ⟨k,j,none⟩=some (pt p.b p.o):=(hM.cell hkz HK.out j).trans hq.q
   obtain ⟨n,hn⟩:=zoh hq.kd
   have c1:wr.cell? ⟨p.b,p.o,none⟩=some (.int .u16 n):=((hM.cell hpz hq.t p.o).trans hq.v).trans (by rw [hn];rfl)
   have hkz2:=Nat.lt_of_lt_of_le hkz hM.size
   have hpz2:=Nat.lt_of_lt_of_le hpz hM.size
   have hyl:ys.length+2<=50000:=by
    rw [hys,List.length_append,zdf (K:=.u16) (by intro h;cases h) _ (zij HP.out j)]
    simp only [cts,List.length_map,List.length_take,Kd.len]
    omega
   have hys2:xs++wrL (cts (ps.take (j+1)))=ys++(Ct.u16 n).wr:=by rw [hys,ze2 hpj,zbl,zcH,hn,List.append_assoc]
   have HYS:=hid hys2
   have hok:=hq.ok
   rw [hn] at hok
   have hgz:=hR.b.z
   have HR:=hid hR
   have HM:=hid hM
   have hjl:(j:Int)<ps.length:=by omega
   have hj0:(0:Int)<=j:=by omega
   have hpl:(ps.length:Int)<=50000:=by omega
   have hb:0<=n/\n<=65535:=hok
   have HQ1:=hid (Sv.two (ys:=ys) (wr:=wr) .u8 372 (.u8 (n/256)) (.u8 (n%256)) 5 207 rfl ⟨by omega,by omega⟩ rfl ⟨by omega,by omega⟩ hR (λk cap ps W h hk hp e=>Sv.wbyte g k cap ys v1 ps W h hk hp (by rw [e];show ys.length+2<=50000;omega)))
   clear hq hR hM hys hys2 hpj hn
   go_wp2_with (first
    | (go_at_call 159;refine (zbk n _ hb).mono ?_;rintro e w1 ⟨rfl,rfl⟩)
    | (go_at_call 372;refine HQ1.out.mono ?_;rintro e w1 ⟨rfl,v2,q1,q2⟩;have HQ:Hid (Wr g (ys++(Ct.u16 n).wr) v2 w1/\Mv g (SaTw g v1) (SaTw g v2) wr w1):=hid ⟨q1,q2⟩;clear q1 q2))
   exact ⟨⟨j+1,_,by omega,by simp,by rw [HYS.out];exact HQ.out.1,HM.out.trans HQ.out.2⟩,by simp [intOf];omega⟩
  ·have hj2:j=ps.length:=by omega
   subst hj2
   have hnl:¬ (ps.length:Int)<ps.length:=by omega
   rw [List.take_length] at hys
   have HR:=hid hR
   have HM:=hid hM
   have HYS:=hid hys
   clear hR hM hys
   go_wp2
   go_end0
   exact ⟨rfl,v1,by rw [<- HYS.out];exact HR.out,HM.out⟩
theorem zik {ops:Array Oper} {o:Oper} {a:Act} {w:World} {K:Act->World->Prop} {Q:Exit->Act->World->Prop} {E:Prop} (hgd:o.guard=none) (s x:Operand)
 (ho:o.op = .call { callee:=.builtin .append,args:=#[s,x],argTypes:=#[26,26] }) (B:Nat) (v:Value) (ys:List UInt8) (hs:a.eval s=v) (hown:w.ownsRow B 5 1 v ys.length (bcs ys)) (xv:Value) (hx:a.eval x=xv)
 (l:List UInt8) (hl:sliceAt w xv l) (hb:ys.length+l.length<=1000000) (hBw:B<=w.heap.size)
 (h:∀ v' w',w'.ownsRow B 5 1 v' (ys++l).length (bcs (ys++l))->w.grownBy w' v.ownBlock->(∀ k,v'.ownBlock=some k->v.ownBlock=some k \/ k=w.heap.size)->K (a.put o.dst v') w') :
 if Region.wanted o (yielded ops a.tmps)=true then Oper.wp Tryz.prog o a w K Q else E:=by
 obtain ⟨i0,hi0,hz0,hz1,hz2⟩:=info_parts za4
 by_cases hl0:l=[]
 ·subst hl0
  have hxv:∃ ad c,xv = .slice ad 0 c:=by
   rcases hl with ⟨ad,c,h1,_⟩|⟨g,o',c,h1,_⟩
   ·exact ⟨ad,c,h1⟩
   ·exact ⟨_,c,h1⟩
  obtain ⟨ad,c,rfl⟩:=hxv
  rw [if_pos (by simp [Region.wanted,hgd])]
  have hrun:=appendNo B i0 hi0 o.type _ ys.length (bcs ys) hown ad c
  unfold Oper.wp
  simp [execOp,ho,resolve,invoke,builtin,hs,hx,hrun,Result.andThen]
  exact h _ w (by simpa using hown) ⟨rfl,rfl,rfl,Nat.le_refl _,λk _ _=>rfl⟩ (λk hk=>Or.inl hk)
 ·rcases hl with ⟨ad,c,_,h2⟩|⟨g1,o',c,h1,h2,h3,h4⟩
  ·exact absurd h2 hl0
  ·have hlen:0<l.length:=by cases l with|nil=>exact absurd rfl hl0|cons _ _=>simp
   refine step_append_lies _ hgd s x _ ho B 5 i0 _ 1 1 Tryz.underlying26 hi0 hz0 hz1 hz2 rfl (by omega) _ ys.length (bcs ys) hs hown ⟨g1,o',none⟩ l.length c (bcs l) (hx.trans h1) (by simp [bcs]) (λj u hj=>?_) (λu hu=>?_) hlen (by simp [maxLen];omega) (by omega) hBw w.heap.size rfl ?_
   ·simp only [bcs,List.getElem?_map,Option.map_eq_some_iff] at hj
    obtain ⟨cc,hc1,hc2⟩:=hj
    rw [<- hc2,show (⟨g1,o',none⟩:Addr).add j=⟨g1,o'+j,none⟩ by unfold Addr.add;split <;> simp_all]
    exact h4 j cc hc1
   ·simp only [bcs,List.mem_map] at hu
    obtain ⟨cc,_,rfl⟩:=hu
    rfl
   ·intro g' cap w' hown' hgrow hor _
    refine h _ w' ?_ hgrow (λk hk=>?_)
    ·rw [List.length_append,<- zbi];exact hown'
    ·obtain rfl:g'=k:=Option.some.inj hk
     exact hor
theorem Wr.grow2 {g:Nat} {ys l:List UInt8} {v v':Value} {W w3:World} (h:Wr g ys v W) (hown:w3.ownsRow (g+1) 5 1 v' (ys++l).length (bcs (ys++l))) (hg:W.grownBy w3 v.ownBlock) (hor:∀ k,v'.ownBlock=some k->v.ownBlock=some k \/ k=W.heap.size) :
 w3.cell? ⟨g,0,none⟩=some v/\g<w3.heap.size/\w3.frozen? ⟨g,0,none⟩=false/\Wr g (ys++l) v' (w3.setCell ⟨g,0,none⟩ v')/\Mv g (SaTw g v) (SaTw g v') W (w3.setCell ⟨g,0,none⟩ v'):=by
 have hgo:some g≠v.ownBlock:=λe=>by have:=(h.o.lt g e.symm).1;omega
 have hb3:Bx w3 g [v]:=h.b.same hg.size (hg.block g h.b.z hgo)
 refine ⟨hb3.at 0 _ rfl,hb3.z,hb3.f 0,⟨hb3.set 0 _ (by simp),?_⟩,?_,?_,?_⟩
 ·refine zbs (w:=w3) hown (λk hk=>Below.heap_setCell _ _ _ _ (λe=>?_))
  have h1:=(hown.lt k hk).1
  have h2:k=g:=e
  omega
 ·exact (ze0 hg (Nat.le_of_lt h.b.z) (λk hk=>by have:=(h.o.lt k hk).1;omega)).setCell (Nat.le_refl _) _
 ·intro k hk ht
  rw [Below.heap_setCell _ _ _ _ (λe=>ht (Or.inl e))]
  exact hg.block k hk (λe=>ht (Or.inr e.symm))
 ·intro k hk
  rcases hk with rfl|hk
  ·exact Or.inl (Or.inl rfl)
  ·rcases hor k hk with e|e
   ·exact Or.inl (Or.inr e)
   ·exact Or.inr (Nat.le_of_eq e.symm)
def SlUn (g:Nat) (W:World) (v:Value) (l:List UInt8):Prop:=(∃ a cap,v = .slice a 0 cap/\l=[]) \/ ∃ b o cap,v = .slice (some ⟨b,o,none⟩) l.length cap/\l.length<=cap/\b<g/\b<W.heap.size/\bytesAt W b o l
theorem SlUn.kept {g:Nat} {W w1:World} {v:Value} {l:List UInt8} (h:SlUn g W v l) (hb:Below g W w1):SlUn g w1 v l:=by
 rcases h with h|⟨b,o,c,h1,h2,h3,h4,h5⟩
 ·exact Or.inl h
 ·exact Or.inr ⟨b,o,c,h1,h2,h3,Nat.lt_of_lt_of_le h4 hb.size,h5.kept hb h3⟩
theorem SlUn.slice {g:Nat} {W:World} {v:Value} {l:List UInt8} (h:SlUn g W v l):sliceAt W v l:=by
 rcases h with h|⟨b,o,c,h1,h2,h3,h4,h5⟩
 ·exact Or.inl h
 ·exact Or.inr ⟨b,o,c,h1,h2,h4,h5⟩
theorem SlUn.of {g:Nat} {W:World} {v:Value} {l:List UInt8} (h:sliceAt W v l) (hg:W.heap.size<=g):SlUn g W v l:=by
 rcases h with h|⟨b,o,c,h1,h2,h3,h4⟩
 ·exact Or.inl h
 ·exact Or.inr ⟨b,o,c,h1,h2,by omega,h3,h4⟩
structure Ps where
 b:Nat
 o:Nat
 l:List UInt8
structure Ps.at (g k j : Nat) (W : World) (p : Ps) : Prop where
 q:W.cell? ⟨k,j,none⟩=some (pt p.b p.o)
 s:∃ v,W.cell? ⟨p.b,p.o,none⟩=some v/\SlUn g W v p.l
 lt:p.b<g
 ok:p.l.length<=65535
def lts (ps:List Ps):List Ct:=ps.map (λp=>.lst p.l)
theorem zgR {ps:List Ps} {j:Nat} {p:Ps} (h:ps[j]? = some p):lts (ps.take (j+1))=lts (ps.take j)++[.lst p.l]:=by
 unfold lts
 rw [List.take_add_one,h,List.map_append];rfl
theorem zmR {ps:List Ps} {j:Nat} {p:Ps} (h:ps[j]? = some p):(wrL (lts (ps.take j))).length+(2+p.l.length)<=(wrL (lts ps)).length:=by
 have e:ps=ps.take (j+1)++ps.drop (j+1):=(List.take_append_drop _ _).symm
 have e2:lts ps=lts (ps.take (j+1))++lts (ps.drop (j+1)):=by
  show List.map _ _=List.map _ _++List.map _ _
  rw [<- List.map_append,List.take_append_drop]
 rw [e2,zbl,zgR h,zbl,List.length_append,List.length_append,zcH]
 have:(Ct.lst p.l).wr.length=2+p.l.length:=by show (wW _++p.l).length=_;rw [List.length_append];rfl
 omega
theorem Sv.wlists (g k cap:Nat) (xs:List UInt8) (v:Value) (ps:List Ps) (W:World) (h:Wr g xs v W) (hk:¬ SaTw g v k) (hp:∀ j p,ps[j]? = some p->Ps.at g k j W p) (hl:xs.length+(wrL (lts ps)).length<=50000) (hps:ps.length<=100) :
 Calls Tryz.prog 373 #[pt g 0,.slice (some ⟨k,0,none⟩) ps.length cap] W λe w'=>e = .returned (.tuple #[]) /\ ∃ v',Wr g (xs++wrL (lts ps)) v' w'/\Mv g (SaTw g v) (SaTw g v') W w':=by
 have H:=hid h
 have HP:=hid hp
 have HK:=hid hk
 clear h hp hk
 go_enter Tryz.func373,Tryz.ntmps373
 go_wp2
 go_loopw [9] (λi wr=>∃ (j:Nat) (v1:Value),j<=ps.length/\i = .int .i64 j/\Wr g (xs++wrL (lts (ps.take j))) v1 wr/\Mv g (SaTw g v) (SaTw g v1) W wr) (λi _=>ps.length-(intOf i).toNat)
 case atStart=>exact ⟨0,v,Nat.zero_le _,rfl,by simpa [lts,wrL] using H.out,Mv.refl _ _ _⟩
 case round =>
  obtain ⟨j,v1,hj,rfl,hR,hM⟩:=hrel
  obtain ⟨ys,hys⟩:∃ ys,ys=xs++wrL (lts (ps.take j)):=⟨_,rfl⟩
  rw [<- hys] at hR
  by_cases hlt:j<ps.length
  ·obtain ⟨p,hpj⟩:∃ p,ps[j]? = some p:=⟨_,List.getElem?_eq_getElem hlt⟩
   have hq:=HP.out j p hpj
   obtain ⟨sv,hsv,hsl⟩:=hq.s
   obtain ⟨la,lc,e⟩:=zaF hsl.slice
   subst e
   have hkz:k<W.heap.size:=World.block_lt_of_cell? W _ hq.q
   have hpz:p.b<W.heap.size:=World.block_lt_of_cell? W _ hsv
   have hptw:∀ u,Wr g ys u wr->¬ SaTw g u p.b:=λu hu=>hu.low hq.lt
   have c2:wr.cell? ⟨k,j,none⟩=some (pt p.b p.o):=(hM.cell hkz HK.out j).trans hq.q
   have c1:wr.cell? ⟨p.b,p.o,none⟩=some (.slice la p.l.length lc):=(hM.below.cell (p:=⟨p.b,p.o,none⟩) hq.lt).trans hsv
   have hkz2:=Nat.lt_of_lt_of_le hkz hM.size
   have hpz2:=Nat.lt_of_lt_of_le hpz hM.size
   have hsl2:=hsl.kept hM.below
   have hok:=hq.ok
   have hpg:=hq.lt
   have hyl:ys.length+(2+p.l.length)<=50000:=by
    have:=zmR hpj
    rw [hys,List.length_append]
    omega
   have hys2:xs++wrL (lts (ps.take (j+1)))=(ys++wW p.l.length)++p.l:=by rw [hys,zgR hpj,zbl,zcH,List.append_assoc,List.append_assoc];rfl
   have HYS:=hid hys2
   have hgz:=hR.b.z
   have HR:=hid hR
   have HM:=hid hM
   have HSl:=hid hsl2
   have hjl:(j:Int)<ps.length:=by omega
   have hj0:(0:Int)<=j:=by omega
   have hpl:(ps.length:Int)<=100:=by omega
   have hw1:IntKind.u16.wrap (p.l.length:Int)=p.l.length:=by rw [IntKind.wrap_u16];omega
   have HQ1:=hid (Sv.one (ys:=ys) (wr:=wr) .u16 375 (.u16 p.l.length) 22 211 rfl ⟨by omega,by omega⟩ hR (λ_ _=>True) (λk cap ps W h hk hp e=>Sv.wwords g k cap ys v1 ps W h hk hp (by rw [e];show ys.length+2*1<=50000;omega)))
   clear hq hR hM hys hys2 hpj hsv hsl hsl2 hptw
   go_upto_region 5 with (go_at_call 375;refine HQ1.out.mono ?_;rintro e w1 ⟨rfl,v2,q1,q2⟩;have HB0:=hid q1;have HM2:=hid q2;have HSL:=hid (HSl.out.kept q2.below);have d1:w1.cell? ⟨p.b,p.o,none⟩=some (.slice la p.l.length lc):=(q2.below.cell (p:=⟨p.b,p.o,none⟩) hpg).trans c1;have z1:=q2.size;clear q1 q2)
   obtain ⟨zs,hzs⟩:∃ zs,zs=ys++(Ct.u16 p.l.length).wr:=⟨_,rfl⟩
   have hB0:=HB0.out
   rw [<- hzs] at hB0
   have hys3:xs++wrL (lts (ps.take (j+1)))=zs++p.l:=by rw [HYS.out,hzs];rfl
   have HY3:=hid hys3
   have hlen:zs.length+p.l.length<=1000000:=by rw [hzs,List.length_append];show ys.length+2+_<=_;omega
   obtain ⟨ua,uc,e⟩:=hB0.slice
   subst e
   have d0:=hB0.b.at 0 _ rfl
   have HB:=hid hB0.drew
   have hgz1:=hB0.b.z
   have htb:some p.b≠(Value.slice ua zs.length uc).ownBlock:=λe=>hB0.low hpg (Or.inr e.symm)
   have HTB:=hid htb
   have hpz3:p.b<w1.heap.size:=by omega
   clear hys3 hB0 hzs htb HB0 HYS HQ1
   refine zac (S:=λw'=>w'.cell? ⟨g,0,none⟩=some (.slice ua zs.length uc)/\w'.cell? ⟨p.b,p.o,none⟩=some (.slice la p.l.length lc)) (st:=11) (by kernel_rfl) ?_
   have hS:w1.drew.cell? ⟨g,0,none⟩=some (.slice ua zs.length uc)/\w1.drew.cell? ⟨p.b,p.o,none⟩=some (.slice la p.l.length lc):=⟨d0,d1⟩
   refine tqG 0 ⟨some 21,_,_,_,_,none⟩ (λ_=>hS) ?_
   simp only [Act.put,xA,xB,xC]
   refine tqG 1 ⟨some 22,_,_,_,_,none⟩ (λ_=>hS) ?_
   simp only [Act.put,xA,xB,xC]
   refine tqG 2 ⟨some 23,_,_,_,_,none⟩ (λ_=>hS) ?_
   simp only [Act.put,xA,xB,xC]
   refine tqG 3 ⟨some 24,_,_,_,_,none⟩ (λ_=>hS) ?_
   simp only [Act.put,xA,xB,xC]
   refine tqG 5 ⟨some 26,_,_,_,_,none⟩ (λ_=>hS) ?_
   simp only [Act.put,xA,xB,xC]
   refine tqG 6 ⟨some 27,_,_,_,_,none⟩ (λ_=>hS) ?_
   simp only [Act.put,xA,xB,xC]
   refine zaf (i:=4) (oi:=⟨some 25,_,_,_,_,none⟩) (v:=.slice ua zs.length uc) rfl (by kernel_rfl) (by kernel_rfl) (by kernel_rfl) (by kernel_rfl) (by decide) (by kernel_rfl) (λ_ _ _ h=>h) (Or.inl ⟨by rfl,?_⟩) hS ?_
   ·intro w' hSw
    have hcc:=hSw.1
    have hcz:=World.block_lt_of_cell? w' _ hcc
    go_simp
    try (with_reducible rfl)
   simp only [Act.put,xA,xB,xC]
   refine zaf (i:=7) (oi:=⟨some 28,_,_,_,_,none⟩) (v:=.slice la p.l.length lc) rfl (by kernel_rfl) (by kernel_rfl) (by kernel_rfl) (by kernel_rfl) (by decide) (by kernel_rfl) (λ_ _ _ h=>h) (Or.inl ⟨by rfl,?_⟩) hS ?_
   ·intro w' hSw
    have hcc:=hSw.2
    have hcz:=World.block_lt_of_cell? w' _ hcc
    go_simp
    try (with_reducible rfl)
   simp only [Act.put,xA,xB,xC]
   clear hS
   refine zaa (i:=8) (o:=⟨some 29,_,_,_,_,none⟩) (by kernel_rfl) rfl (λK hK=>?_)
   refine zik (by rfl) (.tmp 25) (.tmp 28) (by rfl) (g+1) (.slice ua zs.length uc) zs rfl HB.out.o (.slice la p.l.length lc) rfl p.l (HSL.out.slice) hlen HB.out.b.z ?_
   intro v' w3 hown hgrow hor
   obtain ⟨va,vc,ev⟩:=zaF (zaL hown)
   subst ev
   have HW:=hid (HB.out.grow2 hown hgrow hor)
   have d1b:=((hgrow.block p.b (show p.b<w1.drew.heap.size from hpz3) (HTB.out)) |> λe=>World.cell?_of_block (a:=⟨p.b,p.o,none⟩) e).trans d1
   have d0b:=HW.out.1
   have gzb:=HW.out.2.1
   have gfb:=HW.out.2.2.1
   refine hK.out _ _ (λ_=>⟨d0b,d1b⟩) ?_
   clear hK K
   try simp only [Act.put,xA,xB,xC]
   refine tqG 9 ⟨some 30,_,_,_,_,none⟩ (λ_=>⟨d0b,d1b⟩) ?_
   simp only [Act.put,xA,xB,xC]
   refine tqG 10 ⟨some 31,_,_,_,_,none⟩ (λ_=>⟨d0b,d1b⟩) ?_
   simp only [Act.put,xA,xB,xC]
   refine zaa (i:=11) (o:=⟨none,_,_,_,_,none⟩) (by kernel_rfl) rfl (λK hK=>?_)
   go_simp
   refine hK.out _ _ (λh=>by cases h) ?_
   clear hK K
   try simp only [Act.put,xA,xB,xC]
   refine zab (by kernel_rfl) ?_ _
   have q3:=(Mv.of_below (T:=SaTw g (.slice ua zs.length uc)) (Nat.le_of_lt hgz1) (st0 w1).drew).trans HW.out.2.2.2.2
   have q1:=HW.out.2.2.2.1
   rw [List.length_append] at q1 q3
   go_wp2
   exact ⟨⟨j+1,_,by omega,by simp,by rw [HY3.out];exact q1,(HM.out.trans HM2.out).trans q3⟩,by simp [intOf];omega⟩
  ·have hj2:j=ps.length:=by omega
   subst hj2
   have hnl:¬ (ps.length:Int)<ps.length:=by omega
   rw [List.take_length] at hys
   have HR:=hid hR
   have HM:=hid hM
   have HYS:=hid hys
   clear hR hM hys
   go_wp2
   go_end0
   exact ⟨rfl,v1,by rw [<- HYS.out];exact HR.out,HM.out⟩
end Go.Proofs.YtbennamieealbaaGreatDoor
