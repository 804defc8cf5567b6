/-
  Parts of a proof, joined.
-/
import Derived.Test.YtbennamieealbaaGreatDoorZg18
import Derived.Test.YtbennamieealbaaGreatDoorZg45
import Derived.Test.YtbennamieealbaaGreatDoorZg32
import Derived.Deep.Slices
import Derived.Test.YtbennamieealbaaGreatDoorZg37
import Derived.Test.YtbennamieealbaaGreatDoorZg38
import Derived.Test.YtbennamieealbaaGreatDoorZg44
import Derived.Deep.CutBlock
import Derived.BigQuiet
set_option linter.unusedVariables false
set_option maxRecDepth 100000
set_option maxHeartbeats 800000
namespace Go.Proofs.YtbennamieealbaaGreatDoor
open Go.ChangeShapes Go.WideShapes Go.ChangeAt Go.RowKit
theorem list2 {s:List Value} (h:s.length=2):∃ c0 c1,s=[c0,c1]:=by
 match s,h with
 | [c0,c1],_=>exact ⟨c0,c1,rfl⟩
theorem list3 {s:List Value} (h:s.length=3):∃ c0 c1 c2,s=[c0,c1,c2]:=by
 match s,h with
 | [c0,c1,c2],_=>exact ⟨c0,c1,c2,rfl⟩
theorem list4 {s:List Value} (h:s.length=4):∃ c0 c1 c2 c3,s=[c0,c1,c2,c3]:=by
 match s,h with
 | [c0,c1,c2,c3],_=>exact ⟨c0,c1,c2,c3,rfl⟩
theorem list6 {s:List Value} (h:s.length=6):∃ c0 c1 c2 c3 c4 c5,s=[c0,c1,c2,c3,c4,c5]:=by
 match s,h with
 | [c0,c1,c2,c3,c4,c5],_=>exact ⟨c0,c1,c2,c3,c4,c5,rfl⟩
theorem list15 {s:List Value} (h:s.length=15):∃ c0 c1 c2 c3 c4 c5 c6 c7 c8 c9 c10 c11 c12 c13 c14,s=[c0,c1,c2,c3,c4,c5,c6,c7,c8,c9,c10,c11,c12,c13,c14]:=by
 match s,h with
 | [c0,c1,c2,c3,c4,c5,c6,c7,c8,c9,c10,c11,c12,c13,c14],_=>exact ⟨c0,c1,c2,c3,c4,c5,c6,c7,c8,c9,c10,c11,c12,c13,c14,rfl⟩
theorem list16 {s:List Value} (h:s.length=16):∃ c0 c1 c2 c3 c4 c5 c6 c7 c8 c9 c10 c11 c12 c13 c14 c15,s=[c0,c1,c2,c3,c4,c5,c6,c7,c8,c9,c10,c11,c12,c13,c14,c15]:=by
 match s,h with
 | [c0,c1,c2,c3,c4,c5,c6,c7,c8,c9,c10,c11,c12,c13,c14,c15],_=>exact ⟨c0,c1,c2,c3,c4,c5,c6,c7,c8,c9,c10,c11,c12,c13,c14,c15,rfl⟩
theorem zkA {H:Type} {enc:TypeId × Value->H} {w:World} {base:Nat} {spare:Nat->Bool} {held:Bool} {n:Nat} {x:DataW H × List MemPlace} {s:List Value} (h:DataW.trod enc Tryz.prog w base spare held n 25 s=some x) (hs:s.length=15):∃ c:C.Cpu,s=cpuL c/\c.ok:=by
 have hU:Tryz.prog.cellsOf 22=1:=by kernel_rfl
 have hB:Tryz.prog.cellsOf 4=1:=by kernel_rfl
 have hE:Tryz.prog.cellsOf 5=1:=by kernel_rfl
 have hI:Tryz.prog.cellsOf 3=1:=by kernel_rfl
 have hR:Tryz.prog.cellsOf 23=8:=by kernel_rfl
 obtain ⟨c0,c1,c2,c3,c4,c5,c6,c7,c8,c9,c10,c11,c12,c13,c14,rfl⟩:=list15 hs
 obtain ⟨xs,m,_,_,_,hlen,hfs⟩:=DataW.trod_struct Tryz.underlying25 h
 have hl8:xs.length=8:=hlen
 have g0:DataW.trod enc Tryz.prog w base spare held m 23 (([c0,c1,c2,c3,c4,c5,c6,c7,c8,c9,c10,c11,c12,c13,c14].drop 0).take (Tryz.prog.cellsOf 23))=xs[0]?:=hfs 0 _ rfl
 rw [List.getElem?_eq_getElem (by omega)] at g0
 obtain ⟨ys,k,_,_,_,hyl,hys⟩:=DataW.trod_array Tryz.underlying23 g0
 obtain ⟨a0,rfl,w0⟩:=zaw (o:=0*Tryz.prog.cellsOf 22) (v:=c0) (hys 0 (by omega)) (by omega) hU Tryz.underlying22 (by rw [hU,hR];rfl)
 obtain ⟨a1,rfl,w1⟩:=zaw (o:=1*Tryz.prog.cellsOf 22) (v:=c1) (hys 1 (by omega)) (by omega) hU Tryz.underlying22 (by rw [hU,hR];rfl)
 obtain ⟨a2,rfl,w2⟩:=zaw (o:=2*Tryz.prog.cellsOf 22) (v:=c2) (hys 2 (by omega)) (by omega) hU Tryz.underlying22 (by rw [hU,hR];rfl)
 obtain ⟨a3,rfl,w3⟩:=zaw (o:=3*Tryz.prog.cellsOf 22) (v:=c3) (hys 3 (by omega)) (by omega) hU Tryz.underlying22 (by rw [hU,hR];rfl)
 obtain ⟨a4,rfl,w4⟩:=zaw (o:=4*Tryz.prog.cellsOf 22) (v:=c4) (hys 4 (by omega)) (by omega) hU Tryz.underlying22 (by rw [hU,hR];rfl)
 obtain ⟨a5,rfl,w5⟩:=zaw (o:=5*Tryz.prog.cellsOf 22) (v:=c5) (hys 5 (by omega)) (by omega) hU Tryz.underlying22 (by rw [hU,hR];rfl)
 obtain ⟨a6,rfl,w6⟩:=zaw (o:=6*Tryz.prog.cellsOf 22) (v:=c6) (hys 6 (by omega)) (by omega) hU Tryz.underlying22 (by rw [hU,hR];rfl)
 obtain ⟨a7,rfl,w7⟩:=zaw (o:=7*Tryz.prog.cellsOf 22) (v:=c7) (hys 7 (by omega)) (by omega) hU Tryz.underlying22 (by rw [hU,hR];rfl)
 obtain ⟨a8,rfl,wa8⟩:=zaw (ty:=22) (o:=8) (v:=c8) (hfs 1 _ rfl) (by omega) hU Tryz.underlying22 rfl
 obtain ⟨b0,rfl⟩:=zaQ (ty:=4) (o:=9) (v:=c9) (hfs 2 _ rfl) (by omega) hB Tryz.underlying4 rfl
 obtain ⟨b1,rfl⟩:=zaQ (ty:=4) (o:=10) (v:=c10) (hfs 3 _ rfl) (by omega) hB Tryz.underlying4 rfl
 obtain ⟨b2,rfl⟩:=zaQ (ty:=4) (o:=11) (v:=c11) (hfs 4 _ rfl) (by omega) hB Tryz.underlying4 rfl
 obtain ⟨b3,rfl⟩:=zaQ (ty:=4) (o:=12) (v:=c12) (hfs 5 _ rfl) (by omega) hB Tryz.underlying4 rfl
 obtain ⟨b4,rfl⟩:=zaQ (ty:=4) (o:=13) (v:=c13) (hfs 6 _ rfl) (by omega) hB Tryz.underlying4 rfl
 obtain ⟨b5,rfl⟩:=zaQ (ty:=4) (o:=14) (v:=c14) (hfs 7 _ rfl) (by omega) hB Tryz.underlying4 rfl
 refine ⟨⟨[a0,a1,a2,a3,a4,a5,a6,a7],a8,b0,b1,b2,b3,b4,b5⟩,rfl,rfl,λz hz=>?_,(bounds_u16 wa8).1,(bounds_u16 wa8).2⟩
 simp only [List.mem_cons,List.not_mem_nil,or_false] at hz
 rcases hz with rfl|rfl|rfl|rfl|rfl|rfl|rfl|rfl
 ·exact bounds_u16 w0
 ·exact bounds_u16 w1
 ·exact bounds_u16 w2
 ·exact bounds_u16 w3
 ·exact bounds_u16 w4
 ·exact bounds_u16 w5
 ·exact bounds_u16 w6
 ·exact bounds_u16 w7
theorem zkB {H:Type} {enc:TypeId × Value->H} {w:World} {base:Nat} {spare:Nat->Bool} {held:Bool} {n:Nat} {x:DataW H × List MemPlace} {s:List Value} (h:DataW.trod enc Tryz.prog w base spare held n 28 s=some x) (hs:s.length=3):∃ p:Pd,s=[.int .u8 p.d,.bool p.l,.int .u8 p.s]/\p.ok:=by
 have hU:Tryz.prog.cellsOf 22=1:=by kernel_rfl
 have hB:Tryz.prog.cellsOf 4=1:=by kernel_rfl
 have hE:Tryz.prog.cellsOf 5=1:=by kernel_rfl
 have hI:Tryz.prog.cellsOf 3=1:=by kernel_rfl
 obtain ⟨c0,c1,c2,rfl⟩:=list3 hs
 obtain ⟨xs,m,_,_,_,hlen,hfs⟩:=DataW.trod_struct Tryz.underlying28 h
 have hl:xs.length=3:=hlen
 obtain ⟨a0,rfl,wa0⟩:=zaw (ty:=5) (o:=0) (v:=c0) (hfs 0 _ rfl) (by omega) hE Tryz.underlying5 rfl
 obtain ⟨b1,rfl⟩:=zaQ (ty:=4) (o:=1) (v:=c1) (hfs 1 _ rfl) (by omega) hB Tryz.underlying4 rfl
 obtain ⟨a2,rfl,wa2⟩:=zaw (ty:=5) (o:=2) (v:=c2) (hfs 2 _ rfl) (by omega) hE Tryz.underlying5 rfl
 exact ⟨⟨a0,b1,a2⟩,rfl,bounds_u8 wa0,bounds_u8 wa2⟩
theorem zml {H:Type} {enc:TypeId × Value->H} {w:World} {base:Nat} {spare:Nat->Bool} {held:Bool} {n:Nat} {x:DataW H × List MemPlace} {s:List Value} (h:DataW.trod enc Tryz.prog w base spare held n 29 s=some x) (hs:s.length=6):∃ p q:Pd,s=[.int .u8 p.d,.bool p.l,.int .u8 p.s,.int .u8 q.d,.bool q.l,.int .u8 q.s]/\p.ok/\q.ok:=by
 have hV:Tryz.prog.cellsOf 28=3:=by kernel_rfl
 obtain ⟨c0,c1,c2,c3,c4,c5,rfl⟩:=list6 hs
 obtain ⟨ys,m,_,_,_,hyl,hys⟩:=DataW.trod_array Tryz.underlying29 h
 have y0:=hys 0 (by omega)
 have y1:=hys 1 (by omega)
 rw [hV,List.getElem?_eq_getElem (by omega)] at y0 y1
 obtain ⟨p,ep,hp⟩:=zkB (s:=[c0,c1,c2]) y0 rfl
 obtain ⟨q,eq,hq⟩:=zkB (s:=[c3,c4,c5]) y1 rfl
 simp only [List.cons.injEq,and_true] at ep eq
 obtain ⟨rfl,rfl,rfl⟩:=ep
 obtain ⟨rfl,rfl,rfl⟩:=eq
 exact ⟨p,q,rfl,hp,hq⟩
theorem zkC {H:Type} {enc:TypeId × Value->H} {w:World} {base:Nat} {spare:Nat->Bool} {held:Bool} {n:Nat} {x:DataW H × List MemPlace} {s:List Value} (h:DataW.trod enc Tryz.prog w base spare held n 31 s=some x) (hs:s.length=4):∃ t:TM,s=[.int .u16 t.r,.int .u16 t.c,.bool t.on,.bool t.g]/\bd16 t.r/\bd16 t.c:=by
 have hU:Tryz.prog.cellsOf 22=1:=by kernel_rfl
 have hB:Tryz.prog.cellsOf 4=1:=by kernel_rfl
 have hE:Tryz.prog.cellsOf 5=1:=by kernel_rfl
 have hI:Tryz.prog.cellsOf 3=1:=by kernel_rfl
 obtain ⟨c0,c1,c2,c3,rfl⟩:=list4 hs
 obtain ⟨xs,m,_,_,_,hlen,hfs⟩:=DataW.trod_struct Tryz.underlying31 h
 have hl:xs.length=4:=hlen
 obtain ⟨a0,rfl,wa0⟩:=zaw (ty:=22) (o:=0) (v:=c0) (hfs 0 _ rfl) (by omega) hU Tryz.underlying22 rfl
 obtain ⟨a1,rfl,wa1⟩:=zaw (ty:=22) (o:=1) (v:=c1) (hfs 1 _ rfl) (by omega) hU Tryz.underlying22 rfl
 obtain ⟨b2,rfl⟩:=zaQ (ty:=4) (o:=2) (v:=c2) (hfs 2 _ rfl) (by omega) hB Tryz.underlying4 rfl
 obtain ⟨b3,rfl⟩:=zaQ (ty:=4) (o:=3) (v:=c3) (hfs 3 _ rfl) (by omega) hB Tryz.underlying4 rfl
 exact ⟨⟨a0,a1,b2,b3⟩,rfl,bounds_u16 wa0,bounds_u16 wa1⟩
theorem zmm {H:Type} {enc:TypeId × Value->H} {w:World} {base:Nat} {spare:Nat->Bool} {held:Bool} {n:Nat} {x:DataW H × List MemPlace} {s:List Value} (h:DataW.trod enc Tryz.prog w base spare held n 38 s=some x) (hs:s.length=4):∃ b:Bem,s=[.int .i64 b.l,.int .i64 b.a,.bool b.g,.int .i64 b.f]:=by
 have hU:Tryz.prog.cellsOf 22=1:=by kernel_rfl
 have hB:Tryz.prog.cellsOf 4=1:=by kernel_rfl
 have hE:Tryz.prog.cellsOf 5=1:=by kernel_rfl
 have hI:Tryz.prog.cellsOf 3=1:=by kernel_rfl
 obtain ⟨c0,c1,c2,c3,rfl⟩:=list4 hs
 obtain ⟨xs,m,_,_,_,hlen,hfs⟩:=DataW.trod_struct Tryz.underlying38 h
 have hl:xs.length=4:=hlen
 obtain ⟨a0,rfl,wa0⟩:=zaw (ty:=3) (o:=0) (v:=c0) (hfs 0 _ rfl) (by omega) hI Tryz.underlying3 rfl
 obtain ⟨a1,rfl,wa1⟩:=zaw (ty:=3) (o:=1) (v:=c1) (hfs 1 _ rfl) (by omega) hI Tryz.underlying3 rfl
 obtain ⟨b2,rfl⟩:=zaQ (ty:=4) (o:=2) (v:=c2) (hfs 2 _ rfl) (by omega) hB Tryz.underlying4 rfl
 obtain ⟨a3,rfl,wa3⟩:=zaw (ty:=3) (o:=3) (v:=c3) (hfs 3 _ rfl) (by omega) hI Tryz.underlying3 rfl
 exact ⟨⟨a0,a1,b2,a3⟩,rfl⟩
theorem zmn {H:Type} {enc:TypeId × Value->H} {w:World} {base:Nat} {spare:Nat->Bool} {held:Bool} {n:Nat} {x:DataW H × List MemPlace} {s:List Value} (h:DataW.trod enc Tryz.prog w base spare held n 39 s=some x) (hs:s.length=2):∃ a b:Int,s=[.int .u8 a,.int .u8 b]/\bd8 a/\bd8 b:=by
 have hU:Tryz.prog.cellsOf 22=1:=by kernel_rfl
 have hB:Tryz.prog.cellsOf 4=1:=by kernel_rfl
 have hE:Tryz.prog.cellsOf 5=1:=by kernel_rfl
 have hI:Tryz.prog.cellsOf 3=1:=by kernel_rfl
 obtain ⟨c0,c1,rfl⟩:=list2 hs
 obtain ⟨ys,k,_,_,_,hyl,hys⟩:=DataW.trod_array Tryz.underlying39 h
 obtain ⟨a0,rfl,w0⟩:=zaw (o:=0*Tryz.prog.cellsOf 5) (v:=c0) (hys 0 (by omega)) (by omega) hE Tryz.underlying5 (by rw [hE];rfl)
 obtain ⟨a1,rfl,w1⟩:=zaw (o:=1*Tryz.prog.cellsOf 5) (v:=c1) (hys 1 (by omega)) (by omega) hE Tryz.underlying5 (by rw [hE];rfl)
 exact ⟨a0,a1,rfl,bounds_u8 w0,bounds_u8 w1⟩
theorem zkD {H:Type} {enc:TypeId × Value->H} {w:World} {base:Nat} {spare:Nat->Bool} {held:Bool} {n:Nat} {x:DataW H × List MemPlace} {s:List Value} (h:DataW.trod enc Tryz.prog w base spare held n 36 s=some x) (hs:s.length=16):∃ d:Sd,s=sndL d/\d.ok:=by
 have hU:Tryz.prog.cellsOf 22=1:=by kernel_rfl
 have hB:Tryz.prog.cellsOf 4=1:=by kernel_rfl
 have hE:Tryz.prog.cellsOf 5=1:=by kernel_rfl
 have hI:Tryz.prog.cellsOf 3=1:=by kernel_rfl
 have hV:Tryz.prog.cellsOf 33=5:=by kernel_rfl
 have hR:Tryz.prog.cellsOf 34=15:=by kernel_rfl
 obtain ⟨c0,c1,c2,c3,c4,c5,c6,c7,c8,c9,c10,c11,c12,c13,c14,c15,rfl⟩:=list16 hs
 obtain ⟨xs,k,_,_,_,hlen,hfs⟩:=DataW.trod_struct Tryz.underlying36 h
 have hl2:xs.length=2:=hlen
 have g0:DataW.trod enc Tryz.prog w base spare held k 34 (([c0,c1,c2,c3,c4,c5,c6,c7,c8,c9,c10,c11,c12,c13,c14,c15].drop 0).take (Tryz.prog.cellsOf 34))=xs[0]?:=hfs 0 _ rfl
 rw [List.getElem?_eq_getElem (by omega),hR] at g0
 obtain ⟨ys,m,_,_,_,hyl,hys⟩:=DataW.trod_array zb5 g0
 have y0:=hys 0 (by omega)
 have y1:=hys 1 (by omega)
 have y2:=hys 2 (by omega)
 rw [hV,List.getElem?_eq_getElem (by omega)] at y0 y1 y2
 obtain ⟨va,ea,ha⟩:=zcR (c0:=c0) (c1:=c1) (c2:=c2) (c3:=c3) (c4:=c4) y0
 obtain ⟨vb,eb,hb⟩:=zcR (c0:=c5) (c1:=c6) (c2:=c7) (c3:=c8) (c4:=c9) y1
 obtain ⟨vc,ec,hc⟩:=zcR (c0:=c10) (c1:=c11) (c2:=c12) (c3:=c13) (c4:=c14) y2
 obtain ⟨a15,rfl,w15⟩:=zaw (ty:=3) (o:=15) (v:=c15) (hfs 1 _ rfl) (by omega) hI Tryz.underlying3 rfl
 simp only [List.cons.injEq,and_true] at ea eb ec
 obtain ⟨rfl,rfl,rfl,rfl,rfl⟩:=ea
 obtain ⟨rfl,rfl,rfl,rfl,rfl⟩:=eb
 obtain ⟨rfl,rfl,rfl,rfl,rfl⟩:=ec
 exact ⟨⟨va,vb,vc,a15⟩,rfl,⟨ha,hb,hc⟩⟩
theorem zbQ {H:Type} {enc:TypeId × Value->H} {W:World} {v:Value} {n:Nat} {x:DataW H × List MemPlace} (hf:DataW.trod enc Tryz.prog W 0 (λ_=>true) true n 26 [v]=some x):∃ l,sliceAt W v l/\l.length<=maxLen:=by
 have c1:Tryz.prog.cellsOf 5=1:=by kernel_rfl
 rcases open_ints Tryz.underlying26 Tryz.underlying5 c1 hf with ⟨hc,_⟩|⟨ad,len',cap',zs,hc,_,hl,hm,hz,_,hcell,hwf⟩
 ·have e:v = .slice none 0 0:=by simpa using hc
  rw [e]
  exact ⟨[],Or.inl ⟨none,0,rfl,rfl⟩,by simp⟩
 ·have e:v = .slice (some ad) len' cap':=by simpa using hc
  rw [e]
  simp only [if_true] at hz
  by_cases h0:len'=0
  ·subst h0
   exact ⟨[],Or.inl ⟨some ad,cap',rfl,rfl⟩,by simp⟩
  ·have hs:=Pl.spot (hcell 0 (by omega))
   obtain ⟨g,o,sp⟩:=ad
   have hs':sp=none:=by
    cases sp with
    | none=>rfl
    | some x=>simp [Addr.add] at hs
   subst hs'
   refine ⟨(zs.take len').map (λz=>UInt8.ofNat z.toNat),Or.inr ⟨g,o,cap',by rw [List.length_map,List.length_take,Nat.min_eq_left (by omega)],by rw [List.length_map,List.length_take];omega,World.block_lt_of_cell? W _ (hcell 0 (by omega)),λj c hj=>?_⟩,by rw [List.length_map,List.length_take];omega⟩
   rw [List.getElem?_map] at hj
   obtain ⟨z,hz1,hz2⟩:=Option.map_eq_some_iff.1 hj
   have hjl:j<len':=by
    have:=(List.getElem?_eq_some_iff.1 hz1).1
    rw [List.length_take] at this;omega
   rw [List.getElem?_take_of_lt hjl] at hz1
   have hzj:j<zs.length:=(List.getElem?_eq_some_iff.1 hz1).1
   have hw:=bounds_u8 (hwf z (List.mem_of_getElem? hz1))
   have:=hcell j hzj
   rw [addr_add,show zs.getD j 0=z by simp [List.getD,hz1]] at this
   rw [this,<- hz2]
   rw [show (UInt8.ofNat z.toNat).toNat=z.toNat by simp;omega,show ((z.toNat:Nat):Int)=z by omega]
theorem zaY {H:Type} {enc:TypeId × Value->H} {P:Program} {w:World} {base:Nat} {spare:Nat->Bool} {held:Bool} {n i o k:Nat} {ty:TypeId} {cs:List Value} {xs:List (DataW H × List MemPlace)}
 (h:DataW.trod enc P w base spare held n ty ((cs.drop o).take (P.cellsOf ty))=xs[i]?) (hi:i<xs.length) (hc:P.cellsOf ty=k):∃ y,DataW.trod enc P w base spare held n ty ((cs.drop o).take k)=some y:=by
 rw [hc,List.getElem?_eq_getElem hi] at h
 exact ⟨_,h⟩
theorem zas {l R:List Value} {n k m:Nat} (hm:n+k=m) (h:l.drop m=R):l.drop n=(l.drop n).take k++R:=by
 subst hm
 rw [<- h,<- List.drop_drop]
 exact (List.take_append_drop k _).symm
theorem zkE {l:List Value} {n k:Nat} (h:l.length<=n+k):l.drop n=(l.drop n).take k:=(List.take_of_length_le (by rw [List.length_drop];omega)).symm
theorem zaV {cs:List Value} (o:Nat) (h:o<cs.length):∃ v,cs[o]? = some v/\(cs.drop o).take 1=[v]:=⟨cs[o],List.getElem?_eq_getElem h,by rw [List.take_one,List.head?_drop,List.getElem?_eq_getElem h];rfl⟩
theorem zkF {H:Type} {enc:TypeId × Value->H} {W:World} {base:Nat} {v:Value} {d:DataW H} {p:List MemPlace} (hv:Value.okWide Tryz.prog W .any base 41 v) (h:DataW.Trod enc Tryz.prog W 0 (λ_=>true) true 41 v d p) :
 ∃ (M:Mach) (S:Sl),v = .agg (machL M S).toArray/\M.ok/\SlAt W S M /\ ∀ j,j<5->(M.byt j).length<=maxLen:=by
 have hU:Tryz.prog.cellsOf 22=1:=by kernel_rfl
 have hB:Tryz.prog.cellsOf 4=1:=by kernel_rfl
 have hE:Tryz.prog.cellsOf 5=1:=by kernel_rfl
 have hI:Tryz.prog.cellsOf 3=1:=by kernel_rfl
 have hM:Tryz.prog.cellsOf 41=75:=by kernel_rfl
 obtain ⟨cs,rfl,hsz⟩:=okWide_struct Tryz.underlying41 hv
 obtain ⟨l⟩:=cs
 have hl:l.length=75:=hsz.trans hM
 obtain ⟨fuel,hf0⟩:=h
 have hf:DataW.trod enc Tryz.prog W 0 (λ_=>true) true fuel 41 l=some (d,p):=hf0
 obtain ⟨xs,m,_,_,_,hlen,hfs⟩:=DataW.trod_struct Tryz.underlying41 hf
 have hx:xs.length=20:=hlen
 obtain ⟨y0,g0⟩:=zaY (ty:=25) (o:=0) (k:=15) (hfs 0 _ rfl) (by omega) (by kernel_rfl)
 obtain ⟨m0,e0,k0⟩:=zkA g0 (by simp [hl])
 obtain ⟨y1,g1⟩:=zaY (ty:=25) (o:=15) (k:=15) (hfs 1 _ rfl) (by omega) (by kernel_rfl)
 obtain ⟨m1,e1,k1⟩:=zkA g1 (by simp [hl])
 obtain ⟨u2,r2,e2⟩:=zaV (cs:=l) 30 (by omega)
 obtain ⟨y2,g2⟩:=zaY (ty:=26) (o:=30) (k:=1) (hfs 2 _ rfl) (by omega) (by kernel_rfl)
 rw [e2] at g2
 obtain ⟨m2,k2,q2⟩:=zbQ g2
 obtain ⟨u3,r3,e3⟩:=zaV (cs:=l) 31 (by omega)
 obtain ⟨y3,g3⟩:=zaY (ty:=26) (o:=31) (k:=1) (hfs 3 _ rfl) (by omega) (by kernel_rfl)
 rw [e3] at g3
 obtain ⟨m3,k3,q3⟩:=zbQ g3
 obtain ⟨u4,r4,e4⟩:=zaV (cs:=l) 32 (by omega)
 obtain ⟨y4,g4⟩:=zaY (ty:=26) (o:=32) (k:=1) (hfs 4 _ rfl) (by omega) (by kernel_rfl)
 rw [e4] at g4
 obtain ⟨m4,k4,q4⟩:=zbQ g4
 obtain ⟨u5,r5,e5⟩:=zaV (cs:=l) 33 (by omega)
 obtain ⟨y5,g5⟩:=zaY (ty:=26) (o:=33) (k:=1) (hfs 5 _ rfl) (by omega) (by kernel_rfl)
 rw [e5] at g5
 obtain ⟨m5,k5,q5⟩:=zbQ g5
 obtain ⟨u6,r6,e6⟩:=zaV (cs:=l) 34 (by omega)
 obtain ⟨y6,g6⟩:=zaY (ty:=26) (o:=34) (k:=1) (hfs 6 _ rfl) (by omega) (by kernel_rfl)
 rw [e6] at g6
 obtain ⟨m6,k6,q6⟩:=zbQ g6
 obtain ⟨y7,g7⟩:=zaY (ty:=29) (o:=35) (k:=6) (hfs 7 _ rfl) (by omega) (by kernel_rfl)
 obtain ⟨m7,n7,e7,k7,q7⟩:=zml g7 (by simp [hl])
 obtain ⟨y8,g8⟩:=zaY (ty:=31) (o:=41) (k:=4) (hfs 8 _ rfl) (by omega) (by kernel_rfl)
 obtain ⟨m8,e8,k8,q8⟩:=zkC g8 (by simp [hl])
 obtain ⟨y9,g9⟩:=zaY (ty:=36) (o:=45) (k:=16) (hfs 9 _ rfl) (by omega) (by kernel_rfl)
 obtain ⟨m9,e9,k9⟩:=zkD g9 (by simp [hl])
 obtain ⟨y10,g10⟩:=zaY (ty:=38) (o:=61) (k:=4) (hfs 10 _ rfl) (by omega) (by kernel_rfl)
 obtain ⟨m10,e10⟩:=zmm g10 (by simp [hl])
 obtain ⟨u11,r11,e11⟩:=zaV (cs:=l) 65 (by omega)
 obtain ⟨m11,rfl,w11⟩:=zaw (ty:=22) (o:=65) (hfs 11 _ rfl) (by omega) hU Tryz.underlying22 r11
 obtain ⟨u12,r12,e12⟩:=zaV (cs:=l) 66 (by omega)
 obtain ⟨m12,rfl,w12⟩:=zaw (ty:=22) (o:=66) (hfs 12 _ rfl) (by omega) hU Tryz.underlying22 r12
 obtain ⟨u13,r13,e13⟩:=zaV (cs:=l) 67 (by omega)
 obtain ⟨m13,rfl⟩:=zaQ (ty:=4) (o:=67) (hfs 13 _ rfl) (by omega) hB Tryz.underlying4 r13
 obtain ⟨u14,r14,e14⟩:=zaV (cs:=l) 68 (by omega)
 obtain ⟨m14,rfl⟩:=zaQ (ty:=4) (o:=68) (hfs 14 _ rfl) (by omega) hB Tryz.underlying4 r14
 obtain ⟨y15,g15⟩:=zaY (ty:=39) (o:=69) (k:=2) (hfs 15 _ rfl) (by omega) (by kernel_rfl)
 obtain ⟨m15,n15,e15,k15,q15⟩:=zmn g15 (by simp [hl])
 obtain ⟨u16,r16,e16⟩:=zaV (cs:=l) 71 (by omega)
 obtain ⟨m16,rfl⟩:=zaQ (ty:=4) (o:=71) (hfs 16 _ rfl) (by omega) hB Tryz.underlying4 r16
 obtain ⟨u17,r17,e17⟩:=zaV (cs:=l) 72 (by omega)
 obtain ⟨m17,rfl,w17⟩:=zaw (ty:=3) (o:=72) (hfs 17 _ rfl) (by omega) hI Tryz.underlying3 r17
 obtain ⟨u18,r18,e18⟩:=zaV (cs:=l) 73 (by omega)
 obtain ⟨m18,rfl,w18⟩:=zaw (ty:=3) (o:=73) (hfs 18 _ rfl) (by omega) hI Tryz.underlying3 r18
 obtain ⟨u19,r19,e19⟩:=zaV (cs:=l) 74 (by omega)
 obtain ⟨m19,rfl,w19⟩:=zaw (ty:=3) (o:=74) (hfs 19 _ rfl) (by omega) hI Tryz.underlying3 r19
 have hL:l=(l.drop 0).take 15++((l.drop 15).take 15++((l.drop 30).take 1++((l.drop 31).take 1++((l.drop 32).take 1++((l.drop 33).take 1++((l.drop 34).take 1++((l.drop 35).take 6++((l.drop 41).take 4++((l.drop 45).take 16++((l.drop 61).take 4++((l.drop 65).take 1++((l.drop 66).take 1++((l.drop 67).take 1++((l.drop 68).take 1++((l.drop 69).take 2++((l.drop 71).take 1++((l.drop 72).take 1++((l.drop 73).take 1++((l.drop 74).take 1))))))))))))))))))) :=
  List.drop_zero.symm.trans (zas (n:=0) (m:=15) rfl (zas (n:=15) (m:=30) rfl (zas (n:=30) (m:=31) rfl (zas (n:=31) (m:=32) rfl (zas (n:=32) (m:=33) rfl (zas (n:=33) (m:=34) rfl (zas (n:=34) (m:=35) rfl (zas (n:=35) (m:=41) rfl (zas (n:=41) (m:=45) rfl (zas (n:=45) (m:=61) rfl (zas (n:=61) (m:=65) rfl (zas (n:=65) (m:=66) rfl (zas (n:=66) (m:=67) rfl (zas (n:=67) (m:=68) rfl (zas (n:=68) (m:=69) rfl (zas (n:=69) (m:=71) rfl (zas (n:=71) (m:=72) rfl (zas (n:=72) (m:=73) rfl (zas (n:=73) (m:=74) rfl (zkE (by omega)))))))))))))))))))))
 rw [e0,e1,e2,e3,e4,e5,e6,e7,e8,e9,e10,e11,e12,e13,e14,e15,e16,e17,e18,e19] at hL
 refine ⟨⟨m0,m1,m2,m3,m4,m5,m6,m7,n7,m8,m9,m10,m11,m12,m13,m14,m15,n15,m16,m17,m18,m19⟩,⟨u2,u3,u4,u5,u6⟩,by rw [hL];rfl,⟨k0,k1,k7,q7,k8,q8,k9,bounds_u16 w11,bounds_u16 w12,k15,q15⟩,λj hj=>?_,λj hj=>?_⟩
 ·rcases five hj with rfl|rfl|rfl|rfl|rfl
  ·exact k2
  ·exact k3
  ·exact k4
  ·exact k5
  ·exact k6
 ·rcases five hj with rfl|rfl|rfl|rfl|rfl
  ·exact q2
  ·exact q3
  ·exact q4
  ·exact q5
  ·exact q6
instance : Inhabited Inp := ⟨⟨0, 0, 0⟩⟩
structure Inp.fits (x : Inp) : Prop where
 c:-9223372036854775808<=x.c/\x.c<=9223372036854775807
 p:-9223372036854775808<=x.p/\x.p<=9223372036854775807
 d:0<=x.d/\x.d<=255
theorem zn0 {H:Type} {enc:TypeId × Value->H} {w:World} {base:Nat} {spare:Nat->Bool} {held:Bool} {n:Nat} {x:DataW H × List MemPlace} {s:List Value} (h:DataW.trod enc Tryz.prog w base spare held n 58 s=some x) (hs:s.length=3):∃ p:Inp,s=[.int .i64 p.c,.int .i64 p.p,.int .u8 p.d]/\p.fits:=by
 have hE:Tryz.prog.cellsOf 5=1:=by kernel_rfl
 have hI:Tryz.prog.cellsOf 3=1:=by kernel_rfl
 obtain ⟨c0,c1,c2,rfl⟩:=list3 hs
 obtain ⟨xs,m,_,_,_,hlen,hfs⟩:=DataW.trod_struct Tryz.underlying58 h
 have hl:xs.length=3:=hlen
 obtain ⟨a0,rfl,wa0⟩:=zaw (ty:=3) (o:=0) (v:=c0) (hfs 0 _ rfl) (by omega) hI Tryz.underlying3 rfl
 obtain ⟨a1,rfl,wa1⟩:=zaw (ty:=3) (o:=1) (v:=c1) (hfs 1 _ rfl) (by omega) hI Tryz.underlying3 rfl
 obtain ⟨a2,rfl,wa2⟩:=zaw (ty:=5) (o:=2) (v:=c2) (hfs 2 _ rfl) (by omega) hE Tryz.underlying5 rfl
 exact ⟨⟨a0,a1,a2⟩,rfl,bounds_i64 wa0,bounds_i64 wa1,bounds_u8 wa2⟩
theorem zgK {H:Type} {enc:TypeId × Value->H} {W:World} {base:Nat} {v:Value} {d:DataW H} {p:List MemPlace} (hv:Value.okWide Tryz.prog W .any base 42 v) (hd:DataW.Trod enc Tryz.prog W 0 (λ_=>true) true 42 v d p) :
 ∃ l:List Inp,InpAt W.heap.size W v l/\l.length<=maxLen /\ ∀ x∈l,x.fits:=by
 obtain ⟨a,len,cap,rfl⟩:=okWide_slice Tryz.underlying42 hv
 obtain ⟨fuel,hf⟩:=hd
 have c3:Tryz.prog.cellsOf 58=3:=by kernel_rfl
 rcases Go.Deep.open_slice Tryz.underlying42 hf with ⟨hc,_⟩|⟨ad,len',cap',m,n,D,Pp,hc,_,hl,hm,hmm,_,hx⟩
 ·have e:(Value.slice a len cap) = .slice none 0 0:=by simpa [Value.cells] using hc
  rw [e]
  exact ⟨[],Or.inl ⟨rfl,none,0,rfl⟩,by simp,by simp⟩
 ·have e:(Value.slice a len cap) = .slice (some ad) len' cap':=by simpa [Value.cells] using hc
  rw [e]
  simp only [if_true] at hmm
  by_cases h0:len'=0
  ·subst h0
   exact ⟨[],Or.inl ⟨rfl,some ad,cap',rfl⟩,by simp,by simp⟩
  ·have hall:∀ i,i<len'->∃ q:Inp,(W.cell? (ad.add (i*3))=some (.int .i64 q.c)/\W.cell? (ad.add (i*3+1))=some (.int .i64 q.p)/\W.cell? (ad.add (i*3+2))=some (.int .u8 q.d))/\q.fits:=λi hi=>by
    obtain ⟨cs',h1,h2⟩:=hx i (by omega)
    rw [c3] at h1
    obtain ⟨_,hlen,hcell⟩:=World.cells?_some h1
    obtain ⟨q,rfl,hq⟩:=zn0 h2 hlen
    have e0:=hcell 0 (by omega)
    have e1:=hcell 1 (by omega)
    have e2:=hcell 2 (by omega)
    rw [Go.Deep.add_add] at e0 e1 e2
    exact ⟨q,⟨by simpa using e0,by simpa using e1,by simpa using e2⟩,hq⟩
   obtain ⟨q,hq⟩:=Go.Deep.choose_lt hall
   have hs:=Pl.spot ((hq 0 (by omega)).1.1)
   obtain ⟨g,o,sp⟩:=ad
   have hs':sp=none:=by
    cases sp with
    | none=>rfl
    | some x=>simp [Addr.add] at hs
   subst hs'
   have hlt:g<W.heap.size:=World.block_lt_of_cell? W _ ((hq 0 (by omega)).1.1)
   refine ⟨(List.range len').map q,Or.inr ⟨g,o,cap',by rw [List.length_map,List.length_range],by rw [List.length_map,List.length_range];exact hl,hlt,hlt,λj x hj=>?_⟩,by rw [List.length_map,List.length_range];omega,λx hx=>?_⟩
   ·rw [List.getElem?_map] at hj
    obtain ⟨i,hi1,hi2⟩:=Option.map_eq_some_iff.1 hj
    obtain ⟨hjl,hi3⟩:=List.getElem?_eq_some_iff.1 hi1
    rw [List.length_range] at hjl
    rw [List.getElem_range] at hi3
    subst hi3
    subst hi2
    obtain ⟨⟨e0,e1,e2⟩,_⟩:=hq j hjl
    rw [addr_add] at e0 e1 e2
    rw [Nat.mul_comm 3 j]
    exact ⟨e0,e1,e2⟩
   ·obtain ⟨i,hi,rfl⟩:=List.mem_map.1 hx
    exact (hq i (List.mem_range.1 hi)).2
def incs:List Inp->List Value
 | []=>[]
 | x::l=>.int .i64 x.c :: .int .i64 x.p :: .int .u8 x.d::incs l
theorem zhf:∀ l k:List Inp,incs (l++k)=incs l++incs k
 | [],k=>rfl
 | x::l,k=>by simp only [incs,List.cons_append,zhf l k]
theorem zkG:∀ (l:List Inp) (j:Nat) (x:Inp),l[j]? = some x->(incs l)[3*j]? = some (.int .i64 x.c)/\(incs l)[3*j+1]? = some (.int .i64 x.p)/\(incs l)[3*j+2]? = some (.int .u8 x.d)
 | [],j,x,h=>by simp at h
 | y::l,0,x,h=>by
  simp only [List.getElem?_cons_zero,Option.some.injEq] at h
  subst h
  exact ⟨rfl,rfl,rfl⟩
 | y::l,j+1,x,h=>by
  rw [List.getElem?_cons_succ] at h
  obtain ⟨h1,h2,h3⟩:=zkG l j x h
  rw [show 3*(j+1)=3*j+1+1+1 by omega]
  exact ⟨h1,h2,h3⟩
theorem zn1 {w:World} {B:Nat} {v:Value} {l:List Inp} (h:w.ownsRow B 58 3 v l.length (incs l)):InpAt w.heap.size w v l:=by
 by_cases h0:l=[]
 ·subst h0
  obtain ⟨a,c,e⟩:=zbv h
  exact Or.inl ⟨rfl,a,c,e⟩
 ·have hl:0<l.length:=by cases l with|nil=>exact absurd rfl h0|cons _ _=>simp
  obtain ⟨g,cap,e,h1,h2,h3⟩:=zf8 h hl
  refine Or.inr ⟨g,0,cap,e,h1,h2,h2,λj x hj=>?_⟩
  obtain ⟨q1,q2,q3⟩:=zkG l j x hj
  rw [Nat.zero_add]
  exact ⟨h3 _ _ q1,h3 _ _ q2,h3 _ _ q3⟩
theorem zmo:(Tryz.prog.info? 58).map (λi=>(i.zero,i.size,i.bytes))=some (some (.agg #[.int .i64 0,.int .i64 0,.int .u8 0]),3,24):=by kernel_rfl
theorem zmp (x:Inp) (w:World):(Instr.buildSlice 42 1 #[(0,.agg #[.int .i64 x.c,.int .i64 x.p,.int .u8 x.d])]).run Tryz.prog w = .ok (.slice (some ⟨w.heap.size,0,none⟩) 1 1) (w.alloc (.cells #[.int .i64 x.c,.int .i64 x.p,.int .u8 x.d] 58)):=by kernel_rfl
theorem zn2 (w:World) (x:Inp) (t:TypeId) {b:Nat} (hb:b=w.heap.size):RwAt (w.alloc (.cells #[.int .i64 x.c,.int .i64 x.p,.int .u8 x.d] t)) (.slice (some ⟨b,0,none⟩) 1 1) 1 3 (incs [x]):=by
 subst hb
 have h:=Bx.new w [.int .i64 x.c,.int .i64 x.p,.int .u8 x.d] t (b:=w.heap.size) rfl
 exact ⟨rfl,Or.inr ⟨w.heap.size,0,1,rfl,Nat.le_refl _,h.z,λj u hj=>by rw [Nat.zero_add];exact h.at j u hj⟩⟩
theorem zn3 (x:Inp):∀ u∈incs [x],u.oneCell'=true:=λu hu=>by
 simp only [incs,List.mem_cons,List.not_mem_nil,or_false] at hu
 rcases hu with rfl|rfl|rfl <;> rfl
/-! ### inputs that are right -/
theorem zdI:∀ (l:List Inp) (a:Int),chkL l a=0->Inps l /\ ∀ x∈l,x.c<=400000
 | [],a,_=>⟨List.Pairwise.nil,λx hx=>by cases hx⟩
 | y::l,a,h=>by
  unfold chkL at h
  split at h
  ·cases h
  ·rename_i h1
   split at h
   ·obtain ⟨i1,i2⟩:=zdI l y.c h
    exact ⟨List.pairwise_cons.2 ⟨λx hx=>(zdA l y.c h x hx).2,i1⟩,λx hx=>by
     rcases List.mem_cons.1 hx with rfl|hx
     ·omega
     ·exact i2 x hx⟩
   ·cases h
theorem zkH:∀ (l:List Inp) (a:Int),Inps l->(∀ x∈l,a<=x.c/\x.c<=400000/\(x.p=0 \/ x.p=1))->chkL l a=0
 | [],a,_,_=>rfl
 | y::l,a,hp,h=>by
  obtain ⟨h1,h2,h3⟩:=h y List.mem_cons_self
  have hp':=List.pairwise_cons.1 hp
  rw [chk0 (by omega) h3]
  exact zkH l y.c hp'.2 (λx hx=>⟨hp'.1 x hx,(h x (List.mem_cons_of_mem _ hx)).2⟩)
theorem zdJ {l:List Inp} {a:Int} (h:chkIn l a=0):l.length<=40/\chkL l a=0:=by
 unfold chkIn at h
 split at h
 ·cases h
 ·exact ⟨by omega,h⟩
theorem zmq {l:List Inp} {a c:Int} (h:chkIn l a=0) (hc:a<=c):chkIn (l.filter (λx=>decide (c<=x.c))) c=0:=by
 obtain ⟨h1,h2⟩:=zdJ h
 obtain ⟨h3,h4⟩:=zdI l a h2
 unfold chkIn
 rw [if_neg (by have:=List.length_filter_le (λx:Inp=>decide (c<=x.c)) l;omega)]
 refine zkH _ _ (List.Pairwise.filter _ h3) (λx hx=>?_)
 obtain ⟨hx1,hx2⟩:=List.mem_filter.1 hx
 exact ⟨by simpa using hx2,h4 x hx1,(zdA l a h2 x hx1).1⟩
def rest (l:List Inp) (c:Int) (j:Nat):List Inp:=(l.take j).filter (λx=>decide (c<=x.c))
theorem zkI {l:List Inp} {c:Int} {j:Nat} {x:Inp} (h:l[j]? = some x):rest l c (j+1)=rest l c j++(if c<=x.c then [x] else []):=by
 unfold rest
 rw [List.take_add_one,h,List.filter_append]
 congr 1
 by_cases hc:c<=x.c
 ·simp [hc]
 ·simp [hc]
theorem zmr (l:List Inp) (c:Int) (j:Nat):(rest l c j).length<=l.length:=by
 unfold rest
 have h1:=List.length_filter_le (λx:Inp=>decide (c<=x.c)) (l.take j)
 rw [List.length_take] at h1
 omega
/-! ### what lies where -/
structure PA (w : World) (M : Mach) (S : Sl) (v : Value) (l : List Inp) (w5 : World) (X : Mach) (SX : Sl) (p1 p2 p3 : Value) (k : Cs) (Y : World) : Prop where
 low:Below w.heap.size w Y
 m:Bx Y w.heap.size (machL M S)
 sm:SlAt Y S M
 inp:InpAt Y.heap.size Y v l
 r:R3 w5 X SX [p1,p2,p3] Y
 sx:SlAt Y SX X
 sh:ShAt Y p1 p2 p3 k.ln k.sm k.s.l
theorem PA.kept {w:World} {M:Mach} {S:Sl} {v:Value} {l:List Inp} {w5:World} {X:Mach} {SX:Sl} {p1 p2 p3:Value} {k:Cs} {Y Y':World} (h:PA w M S v l w5 X SX p1 p2 p3 k Y) (hb:Below Y.heap.size Y Y'):PA w M S v l w5 X SX p1 p2 p3 k Y' :=
 ⟨stp h.low hb,h.m.kept hb,h.sm.kept hb,(h.inp.kept hb).mono hb.size,h.r.kept hb,h.sx.kept hb,h.sh.kept hb⟩
/-! ### a frame over one letter -/
/-! ### what is pressed later -/
/-! ### rows of one's own, side by side -/
/-! ### a run's end -/
def RunsTo (fn:Nat) (args:Array Value) (W:World) (k:Cs):Prop :=
 Calls Tryz.prog fn args W λe w'=>∃ (F:Fx) (a1 a2 a3:Option Addr) (c1 c2 c3:Nat),e = .returned (.tuple #[.agg (machL k.s.M F.S).toArray,.agg #[.slice a1 k.ln.length c1,.slice a2 k.sm.length c2,.slice a3 k.s.l.length c3],.int .i64 0])/\SlAt w' F.S k.s.M/\ShAt w' (.slice a1 k.ln.length c1) (.slice a2 k.sm.length c2) (.slice a3 k.s.l.length c3) k.ln k.sm k.s.l/\k.s.M.fit/\Below W.heap.size W w'
theorem Ct.runs (M:Mach) (S:Sl) (v:Value) (l:List Inp) (n:Nat) (w:World) (k:Cs) (hs:SlAt w S M) (hsh:shapesAt w) (hin:InpAt w.heap.size w v l) (hd:∀ x∈l,0<=x.d/\x.d<=255) (hf:M.fit) (hf2:M.b.f<=19900) (hc:chkIn l M.clock=0) (hn:n<=20000/\M.clock+n<=200000) (hk:(Cs.clocks ⟨⟨M,0,[]⟩,l,[],[]⟩ n).s.M=k.s.M/\(Cs.clocks ⟨⟨M,0,[]⟩,l,[],[]⟩ n).ln=k.ln/\(Cs.clocks ⟨⟨M,0,[]⟩,l,[],[]⟩ n).sm=k.sm/\(Cs.clocks ⟨⟨M,0,[]⟩,l,[],[]⟩ n).s.l=k.s.l) :
 RunsTo 10 #[.agg (machL M S).toArray,v,.int .i64 n] w k:=by
 obtain ⟨k1,k2,k3,k4⟩:=hk
 refine (Ct.run_ok M S v l n w hs hsh hin hd hf hf2 hc hn).mono ?_
 rintro e w' ⟨F,N,vln,vsm,vw,rfl,hT,_,_,_,hb⟩
 obtain ⟨p1,c1,e1⟩:=zgC hT.ln
 obtain ⟨p2,c2,e2⟩:=zgC hT.sm
 obtain ⟨p3,c3,e3⟩:=zgC hT.ws
 have hsh:=sh_of hT
 have hsl:=hT.sl
 have hft:=hT.fit
 subst e1 e2 e3
 rw [k1] at hsl hft ⊢
 rw [k2,k3,k4] at hsh ⊢
 exact ⟨F,p1,p2,p3,c1,c2,c3,rfl,hsl,hsh,hft,hb⟩
structure PF (w : World) (M : Mach) (S : Sl) (v : Value) (l : List Inp) (vf : Value) (lf : List Inp) (vr : Value) (lr : List Inp) (Y : World) : Prop where
 low:Below w.heap.size w Y
 m:Bx Y w.heap.size (machL M S)
 sm:SlAt Y S M
 inp:InpAt Y.heap.size Y v l
 fi:InpAt Y.heap.size Y vf lf
 ri:InpAt Y.heap.size Y vr lr
theorem PF.kept {w:World} {M:Mach} {S:Sl} {v:Value} {l:List Inp} {vf:Value} {lf:List Inp} {vr:Value} {lr:List Inp} {Y Y':World} (h:PF w M S v l vf lf vr lr Y) (hb:Below Y.heap.size Y Y'):PF w M S v l vf lf vr lr Y' :=
 ⟨stp h.low hb,h.m.kept hb,h.sm.kept hb,(h.inp.kept hb).mono hb.size,(h.fi.kept hb).mono hb.size,(h.ri.kept hb).mono hb.size⟩
structure Two (M : Mach) (l : List Inp) (a b : Nat) (k k2 k3 : Cs) : Prop where
 e1:k=Cs.clocks ⟨⟨M,0,[]⟩,l,[],[]⟩ a
 e2:k2=Cs.clocks ⟨⟨k.s.M,0,[]⟩,rest l (M.clock+a) l.length,[],[]⟩ b
 e3:k3=Cs.clocks ⟨⟨M,0,[]⟩,l,[],[]⟩ (a+b)
 fit2:k.s.M.b.f<=20000
 clock:k.s.M.clock=M.clock+a
 M3:k3.s.M=k2.s.M
 ln:k3.ln=k.ln++k2.ln
 sm:k3.sm=k.sm++k2.sm
 ws:k3.s.l=k.s.l++k2.s.l
 z1:k.ln.length<=a/\k2.ln.length<=b
 z2:k.sm.length<=a/\k2.sm.length<=b
 z3:k.s.l.length<=4*a/\k2.s.l.length<=4*b
theorem zbh (l:List Inp) (c:Int):rest l c l.length=l.filter (λx=>decide (c<=x.c)):=by
 unfold rest
 rw [List.take_length]
theorem zgL (s:Bst) (h:s.l.length<=1000000):s.stepAux.l.length<=s.l.length+4:=by
 unfold Bst.stepAux
 split
 ·omega
 ·have hf:=C.fuel_step (m:=auxMem) (λs a=>Nat.le_refl _) (λs a b=>by
   have:=zjU s.M a (b%256)
   show 1000000001-s.l.length<=1000000001-(s.l++s.M.shA a (b%256)).length+1
   rw [List.length_append]
   omega) s.M.aux s s.M.rung
  have hf':1000000001-s.l.length<=1000000001-(C.step auxMem s.M.aux s s.M.rung).s.l.length+4:=hf
  show (C.step auxMem s.M.aux s s.M.rung).s.l.length<=_
  omega
theorem zcS (k0:Cs) (h0:k0.ln=[]/\k0.sm=[]/\k0.s.l=[]):∀ j:Nat,j<=20000->(k0.clocks j).ln.length<=j/\(k0.clocks j).sm.length<=j/\(k0.clocks j).s.l.length<=4*j
 | 0,_=>⟨by show k0.ln.length<=0;rw [h0.1];simp,by show k0.sm.length<=0;rw [h0.2.1];simp,by show k0.s.l.length<=4*0;rw [h0.2.2];simp⟩
 | j+1,hj=>by
  obtain ⟨i1,i2,i3⟩:=zcS k0 h0 j (by omega)
  obtain ⟨k,hk⟩:∃ k,k=k0.clocks j:=⟨_,rfl⟩
  have e:k0.clocks (j+1)=k.clock:=by rw [hk];rfl
  rw [<- hk] at i1 i2 i3
  rw [e]
  refine ⟨?_,?_,?_⟩
  ·show (k.ln++(k.s.M.pressed k.co).line).length<=_
   have:=zkg (k.s.M.pressed k.co)
   rw [List.length_append];omega
  ·show (k.sm++(k.s.M.pressed k.co).sample).length<=_
   have:=zdB (k.s.M.pressed k.co)
   rw [List.length_append];omega
  ·show ((Bst.stepMain ⟨k.s.M.pressed k.co,k.s.n,k.s.l⟩).stepAux).l.length<=_
   have h1:(Bst.stepMain ⟨k.s.M.pressed k.co,k.s.n,k.s.l⟩).l=k.s.l:=zcO _
   have h2:=zgL (Bst.stepMain ⟨k.s.M.pressed k.co,k.s.n,k.s.l⟩) (by rw [h1];omega)
   rw [h1] at h2
   omega
theorem zpp (M:Mach) (l:List Inp) (a b:Nat) (hf:M.fit) (h19:M.b.f<=19000) (hc:chkIn l M.clock=0) (hab:a+b<=20000):∃ k k2 k3,Two M l a b k k2 k3:=by
 obtain ⟨h40,hl⟩:=zdJ hc
 obtain ⟨hp,_⟩:=zdI l _ hl
 have hge:∀ x∈l,M.clock<=x.c:=λx hx=>(zdA l _ hl x hx).2
 have hlk:=zkp M l hp hge a b
 have hrn:=zdC ⟨⟨M,0,[]⟩,l,[],[]⟩ ⟨hf.b.l0,hf.b.l1,hf.b.a0,hf.b.a1,hf.b.f0,by show M.b.f<=20000;omega⟩ h19 a (by omega)
 have hcl:=(zbO ⟨⟨M,0,[]⟩,l,[],[]⟩ l rfl hp hge a).1
 have h1:=zcS ⟨⟨M,0,[]⟩,l,[],[]⟩ ⟨rfl,rfl,rfl⟩ a (by omega)
 have h2:=zcS ⟨⟨(Cs.clocks ⟨⟨M,0,[]⟩,l,[],[]⟩ a).s.M,0,[]⟩,l.filter (λx=>decide (M.clock+a<=x.c)),[],[]⟩ ⟨rfl,rfl,rfl⟩ b (by omega)
 have hb:=hf.b
 refine ⟨_,_,_,⟨rfl,rfl,rfl,?_,hcl,?_,?_,?_,?_,?_,?_,?_⟩⟩
 ·rw [hrn.f]
  show bmF M.b.l M.b.a M.b.f a<=20000
  have:=hb.l0;have:=hb.l1;have:=hb.a0;have:=hb.a1
  unfold bmF
  omega
 ·rw [zbh];exact hlk.s.M
 ·rw [zbh];exact hlk.ln
 ·rw [zbh];exact hlk.sm
 ·rw [zbh];exact hlk.s.l
 ·rw [zbh];exact ⟨h1.1,h2.1⟩
 ·rw [zbh];exact ⟨h1.2.1,h2.2.1⟩
 ·rw [zbh];exact ⟨h1.2.2,h2.2.2⟩
theorem RunsTo.mono {fn:Nat} {args:Array Value} {W:World} {k:Cs} (h:RunsTo fn args W k) {R:Ending->World->Prop} (hm:∀ e w',(∃ (F:Fx) (a1 a2 a3:Option Addr) (c1 c2 c3:Nat),e = .returned (.tuple #[.agg (machL k.s.M F.S).toArray,.agg #[.slice a1 k.ln.length c1,.slice a2 k.sm.length c2,.slice a3 k.s.l.length c3],.int .i64 0])/\SlAt w' F.S k.s.M/\ShAt w' (.slice a1 k.ln.length c1) (.slice a2 k.sm.length c2) (.slice a3 k.s.l.length c3) k.ln k.sm k.s.l/\k.s.M.fit/\Below W.heap.size W w')->R e w'):Calls Tryz.prog fn args W R:=Calls.mono h hm
theorem zpq {M:Mach} {l:List Inp} {a b:Nat} {k k2 k3:Cs} (hf:M.fit) (h19:M.b.f<=19000) (ha:a<=20000) (h:Two M l a b k k2 k3):k.s.M.b.f<=19900:=by
 have hrn:=zdC ⟨⟨M,0,[]⟩,l,[],[]⟩ ⟨hf.b.l0,hf.b.l1,hf.b.a0,hf.b.a1,hf.b.f0,by show M.b.f<=20000;omega⟩ h19 a ha
 rw [<- h.e1] at hrn
 rw [hrn.f]
 show bmF M.b.l M.b.a M.b.f a<=19900
 have hb:=hf.b
 have:=hb.l0;have:=hb.l1;have:=hb.a0;have:=hb.a1
 unfold bmF
 omega
end Go.Proofs.YtbennamieealbaaGreatDoor
