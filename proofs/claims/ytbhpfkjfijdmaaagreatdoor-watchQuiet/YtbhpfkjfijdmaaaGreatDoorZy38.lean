/-
  Parts of a proof, joined.
-/
import Derived.Test.YtbhpfkjfijdmaaaGreatDoorZy25
import Derived.Test.YtbhpfkjfijdmaaaGreatDoorZy37
import Derived.Test.YtbhpfkjfijdmaaaGreatDoorZy30
import Derived.Deep.Slices
import Derived.Test.YtbhpfkjfijdmaaaGreatDoorZy34
import Derived.Test.YtbhpfkjfijdmaaaGreatDoorZy35
namespace Go.Proofs.YtbhpfkjfijdmaaaGreatDoor
open Go.ChangeShapes Go.WideShapes Go.ChangeAt Go.RowKit
set_option linter.unusedVariables false
set_option maxRecDepth 100000
set_option maxHeartbeats 800000
theorem list2 {s:List Value} (h:s.length=2):∃ c0 c1,s=[c0,c1]:=by
 match s,h with
 | [c0,c1],_=>exact ⟨c0,c1,rfl⟩
theorem list3 {s:List Value} (h:s.length=3):∃ c0 c1 c2,s=[c0,c1,c2]:=by
 match s,h with
 | [c0,c1,c2],_=>exact ⟨c0,c1,c2,rfl⟩
theorem list4 {s:List Value} (h:s.length=4):∃ c0 c1 c2 c3,s=[c0,c1,c2,c3]:=by
 match s,h with
 | [c0,c1,c2,c3],_=>exact ⟨c0,c1,c2,c3,rfl⟩
theorem list6 {s:List Value} (h:s.length=6):∃ c0 c1 c2 c3 c4 c5,s=[c0,c1,c2,c3,c4,c5]:=by
 match s,h with
 | [c0,c1,c2,c3,c4,c5],_=>exact ⟨c0,c1,c2,c3,c4,c5,rfl⟩
theorem list15 {s:List Value} (h:s.length=15):∃ c0 c1 c2 c3 c4 c5 c6 c7 c8 c9 c10 c11 c12 c13 c14,s=[c0,c1,c2,c3,c4,c5,c6,c7,c8,c9,c10,c11,c12,c13,c14]:=by
 match s,h with
 | [c0,c1,c2,c3,c4,c5,c6,c7,c8,c9,c10,c11,c12,c13,c14],_=>exact ⟨c0,c1,c2,c3,c4,c5,c6,c7,c8,c9,c10,c11,c12,c13,c14,rfl⟩
theorem list16 {s:List Value} (h:s.length=16):∃ c0 c1 c2 c3 c4 c5 c6 c7 c8 c9 c10 c11 c12 c13 c14 c15,s=[c0,c1,c2,c3,c4,c5,c6,c7,c8,c9,c10,c11,c12,c13,c14,c15]:=by
 match s,h with
 | [c0,c1,c2,c3,c4,c5,c6,c7,c8,c9,c10,c11,c12,c13,c14,c15],_=>exact ⟨c0,c1,c2,c3,c4,c5,c6,c7,c8,c9,c10,c11,c12,c13,c14,c15,rfl⟩
theorem opn_cpu {H:Type} {enc:TypeId × Value->H} {w:World} {base:Nat} {spare:Nat->Bool} {held:Bool} {n:Nat} {x:DataW H × List MemPlace} {s:List Value} (h:DataW.trod enc Tryz.prog w base spare held n 25 s=some x) (hs:s.length=15):∃ c:C.Cpu,s=cpuL c/\c.ok:=by
 have hU:Tryz.prog.cellsOf 22=1:=by kernel_rfl
 have hB:Tryz.prog.cellsOf 4=1:=by kernel_rfl
 have hE:Tryz.prog.cellsOf 5=1:=by kernel_rfl
 have hI:Tryz.prog.cellsOf 3=1:=by kernel_rfl
 have hR:Tryz.prog.cellsOf 23=8:=by kernel_rfl
 obtain ⟨c0,c1,c2,c3,c4,c5,c6,c7,c8,c9,c10,c11,c12,c13,c14,rfl⟩:=list15 hs
 obtain ⟨xs,m,_,_,_,hlen,hfs⟩:=DataW.trod_struct Tryz.underlying25 h
 have hl8:xs.length=8:=hlen
 have g0:DataW.trod enc Tryz.prog w base spare held m 23 (([c0,c1,c2,c3,c4,c5,c6,c7,c8,c9,c10,c11,c12,c13,c14].drop 0).take (Tryz.prog.cellsOf 23))=xs[0]?:=hfs 0 _ rfl
 rw [List.getElem?_eq_getElem (by omega)] at g0
 obtain ⟨ys,k,_,_,_,hyl,hys⟩:=DataW.trod_array Tryz.underlying23 g0
 obtain ⟨a0,rfl,w0⟩:=fld_int (o:=0 * Tryz.prog.cellsOf 22) (v:=c0) (hys 0 (by omega)) (by omega) hU Tryz.underlying22 (by rw [hU,hR];rfl)
 obtain ⟨a1,rfl,w1⟩:=fld_int (o:=1 * Tryz.prog.cellsOf 22) (v:=c1) (hys 1 (by omega)) (by omega) hU Tryz.underlying22 (by rw [hU,hR];rfl)
 obtain ⟨a2,rfl,w2⟩:=fld_int (o:=2 * Tryz.prog.cellsOf 22) (v:=c2) (hys 2 (by omega)) (by omega) hU Tryz.underlying22 (by rw [hU,hR];rfl)
 obtain ⟨a3,rfl,w3⟩:=fld_int (o:=3 * Tryz.prog.cellsOf 22) (v:=c3) (hys 3 (by omega)) (by omega) hU Tryz.underlying22 (by rw [hU,hR];rfl)
 obtain ⟨a4,rfl,w4⟩:=fld_int (o:=4 * Tryz.prog.cellsOf 22) (v:=c4) (hys 4 (by omega)) (by omega) hU Tryz.underlying22 (by rw [hU,hR];rfl)
 obtain ⟨a5,rfl,w5⟩:=fld_int (o:=5 * Tryz.prog.cellsOf 22) (v:=c5) (hys 5 (by omega)) (by omega) hU Tryz.underlying22 (by rw [hU,hR];rfl)
 obtain ⟨a6,rfl,w6⟩:=fld_int (o:=6 * Tryz.prog.cellsOf 22) (v:=c6) (hys 6 (by omega)) (by omega) hU Tryz.underlying22 (by rw [hU,hR];rfl)
 obtain ⟨a7,rfl,w7⟩:=fld_int (o:=7 * Tryz.prog.cellsOf 22) (v:=c7) (hys 7 (by omega)) (by omega) hU Tryz.underlying22 (by rw [hU,hR];rfl)
 obtain ⟨a8,rfl,wa8⟩:=fld_int (ty:=22) (o:=8) (v:=c8) (hfs 1 _ rfl) (by omega) hU Tryz.underlying22 rfl
 obtain ⟨b0,rfl⟩:=fld_bool (ty:=4) (o:=9) (v:=c9) (hfs 2 _ rfl) (by omega) hB Tryz.underlying4 rfl
 obtain ⟨b1,rfl⟩:=fld_bool (ty:=4) (o:=10) (v:=c10) (hfs 3 _ rfl) (by omega) hB Tryz.underlying4 rfl
 obtain ⟨b2,rfl⟩:=fld_bool (ty:=4) (o:=11) (v:=c11) (hfs 4 _ rfl) (by omega) hB Tryz.underlying4 rfl
 obtain ⟨b3,rfl⟩:=fld_bool (ty:=4) (o:=12) (v:=c12) (hfs 5 _ rfl) (by omega) hB Tryz.underlying4 rfl
 obtain ⟨b4,rfl⟩:=fld_bool (ty:=4) (o:=13) (v:=c13) (hfs 6 _ rfl) (by omega) hB Tryz.underlying4 rfl
 obtain ⟨b5,rfl⟩:=fld_bool (ty:=4) (o:=14) (v:=c14) (hfs 7 _ rfl) (by omega) hB Tryz.underlying4 rfl
 refine ⟨⟨[a0,a1,a2,a3,a4,a5,a6,a7],a8,b0,b1,b2,b3,b4,b5⟩,rfl,rfl,fun z hz=>?_,(bounds_u16 wa8).1,(bounds_u16 wa8).2⟩
 simp only [List.mem_cons,List.not_mem_nil,or_false] at hz
 rcases hz with rfl | rfl | rfl | rfl | rfl | rfl | rfl | rfl
 ·exact bounds_u16 w0
 ·exact bounds_u16 w1
 ·exact bounds_u16 w2
 ·exact bounds_u16 w3
 ·exact bounds_u16 w4
 ·exact bounds_u16 w5
 ·exact bounds_u16 w6
 ·exact bounds_u16 w7
theorem opn_pad {H:Type} {enc:TypeId × Value->H} {w:World} {base:Nat} {spare:Nat->Bool} {held:Bool} {n:Nat} {x:DataW H × List MemPlace} {s:List Value} (h:DataW.trod enc Tryz.prog w base spare held n 28 s=some x) (hs:s.length=3):∃ p:Pd,s=[.int .u8 p.d,.bool p.l,.int .u8 p.s]/\p.ok:=by
 have hU:Tryz.prog.cellsOf 22=1:=by kernel_rfl
 have hB:Tryz.prog.cellsOf 4=1:=by kernel_rfl
 have hE:Tryz.prog.cellsOf 5=1:=by kernel_rfl
 have hI:Tryz.prog.cellsOf 3=1:=by kernel_rfl
 obtain ⟨c0,c1,c2,rfl⟩:=list3 hs
 obtain ⟨xs,m,_,_,_,hlen,hfs⟩:=DataW.trod_struct Tryz.underlying28 h
 have hl:xs.length=3:=hlen
 obtain ⟨a0,rfl,wa0⟩:=fld_int (ty:=5) (o:=0) (v:=c0) (hfs 0 _ rfl) (by omega) hE Tryz.underlying5 rfl
 obtain ⟨b1,rfl⟩:=fld_bool (ty:=4) (o:=1) (v:=c1) (hfs 1 _ rfl) (by omega) hB Tryz.underlying4 rfl
 obtain ⟨a2,rfl,wa2⟩:=fld_int (ty:=5) (o:=2) (v:=c2) (hfs 2 _ rfl) (by omega) hE Tryz.underlying5 rfl
 exact ⟨⟨a0,b1,a2⟩,rfl,bounds_u8 wa0,bounds_u8 wa2⟩
theorem opn_pads {H:Type} {enc:TypeId × Value->H} {w:World} {base:Nat} {spare:Nat->Bool} {held:Bool} {n:Nat} {x:DataW H × List MemPlace} {s:List Value} (h:DataW.trod enc Tryz.prog w base spare held n 29 s=some x) (hs:s.length=6):∃ p q:Pd,s=[.int .u8 p.d,.bool p.l,.int .u8 p.s,.int .u8 q.d,.bool q.l,.int .u8 q.s]/\p.ok/\q.ok:=by
 have hV:Tryz.prog.cellsOf 28=3:=by kernel_rfl
 obtain ⟨c0,c1,c2,c3,c4,c5,rfl⟩:=list6 hs
 obtain ⟨ys,m,_,_,_,hyl,hys⟩:=DataW.trod_array Tryz.underlying29 h
 have y0:=hys 0 (by omega)
 have y1:=hys 1 (by omega)
 rw [hV,List.getElem?_eq_getElem (by omega)] at y0 y1
 obtain ⟨p,ep,hp⟩:=opn_pad (s:=[c0,c1,c2]) y0 rfl
 obtain ⟨q,eq,hq⟩:=opn_pad (s:=[c3,c4,c5]) y1 rfl
 simp only [List.cons.injEq,and_true] at ep eq
 obtain ⟨rfl,rfl,rfl⟩:=ep
 obtain ⟨rfl,rfl,rfl⟩:=eq
 exact ⟨p,q,rfl,hp,hq⟩
theorem opn_timer {H:Type} {enc:TypeId × Value->H} {w:World} {base:Nat} {spare:Nat->Bool} {held:Bool} {n:Nat} {x:DataW H × List MemPlace} {s:List Value} (h:DataW.trod enc Tryz.prog w base spare held n 31 s=some x) (hs:s.length=4):∃ t:TM,s=[.int .u16 t.r,.int .u16 t.c,.bool t.on,.bool t.g]/\bd16 t.r/\bd16 t.c:=by
 have hU:Tryz.prog.cellsOf 22=1:=by kernel_rfl
 have hB:Tryz.prog.cellsOf 4=1:=by kernel_rfl
 have hE:Tryz.prog.cellsOf 5=1:=by kernel_rfl
 have hI:Tryz.prog.cellsOf 3=1:=by kernel_rfl
 obtain ⟨c0,c1,c2,c3,rfl⟩:=list4 hs
 obtain ⟨xs,m,_,_,_,hlen,hfs⟩:=DataW.trod_struct Tryz.underlying31 h
 have hl:xs.length=4:=hlen
 obtain ⟨a0,rfl,wa0⟩:=fld_int (ty:=22) (o:=0) (v:=c0) (hfs 0 _ rfl) (by omega) hU Tryz.underlying22 rfl
 obtain ⟨a1,rfl,wa1⟩:=fld_int (ty:=22) (o:=1) (v:=c1) (hfs 1 _ rfl) (by omega) hU Tryz.underlying22 rfl
 obtain ⟨b2,rfl⟩:=fld_bool (ty:=4) (o:=2) (v:=c2) (hfs 2 _ rfl) (by omega) hB Tryz.underlying4 rfl
 obtain ⟨b3,rfl⟩:=fld_bool (ty:=4) (o:=3) (v:=c3) (hfs 3 _ rfl) (by omega) hB Tryz.underlying4 rfl
 exact ⟨⟨a0,a1,b2,b3⟩,rfl,bounds_u16 wa0,bounds_u16 wa1⟩
theorem opn_beam {H:Type} {enc:TypeId × Value->H} {w:World} {base:Nat} {spare:Nat->Bool} {held:Bool} {n:Nat} {x:DataW H × List MemPlace} {s:List Value} (h:DataW.trod enc Tryz.prog w base spare held n 38 s=some x) (hs:s.length=4):∃ b:Bem,s=[.int .i64 b.l,.int .i64 b.a,.bool b.g,.int .i64 b.f]:=by
 have hU:Tryz.prog.cellsOf 22=1:=by kernel_rfl
 have hB:Tryz.prog.cellsOf 4=1:=by kernel_rfl
 have hE:Tryz.prog.cellsOf 5=1:=by kernel_rfl
 have hI:Tryz.prog.cellsOf 3=1:=by kernel_rfl
 obtain ⟨c0,c1,c2,c3,rfl⟩:=list4 hs
 obtain ⟨xs,m,_,_,_,hlen,hfs⟩:=DataW.trod_struct Tryz.underlying38 h
 have hl:xs.length=4:=hlen
 obtain ⟨a0,rfl,wa0⟩:=fld_int (ty:=3) (o:=0) (v:=c0) (hfs 0 _ rfl) (by omega) hI Tryz.underlying3 rfl
 obtain ⟨a1,rfl,wa1⟩:=fld_int (ty:=3) (o:=1) (v:=c1) (hfs 1 _ rfl) (by omega) hI Tryz.underlying3 rfl
 obtain ⟨b2,rfl⟩:=fld_bool (ty:=4) (o:=2) (v:=c2) (hfs 2 _ rfl) (by omega) hB Tryz.underlying4 rfl
 obtain ⟨a3,rfl,wa3⟩:=fld_int (ty:=3) (o:=3) (v:=c3) (hfs 3 _ rfl) (by omega) hI Tryz.underlying3 rfl
 exact ⟨⟨a0,a1,b2,a3⟩,rfl⟩
theorem opn_mail {H:Type} {enc:TypeId × Value->H} {w:World} {base:Nat} {spare:Nat->Bool} {held:Bool} {n:Nat} {x:DataW H × List MemPlace} {s:List Value} (h:DataW.trod enc Tryz.prog w base spare held n 39 s=some x) (hs:s.length=2):∃ a b:Int,s=[.int .u8 a,.int .u8 b]/\bd8 a/\bd8 b:=by
 have hU:Tryz.prog.cellsOf 22=1:=by kernel_rfl
 have hB:Tryz.prog.cellsOf 4=1:=by kernel_rfl
 have hE:Tryz.prog.cellsOf 5=1:=by kernel_rfl
 have hI:Tryz.prog.cellsOf 3=1:=by kernel_rfl
 obtain ⟨c0,c1,rfl⟩:=list2 hs
 obtain ⟨ys,k,_,_,_,hyl,hys⟩:=DataW.trod_array Tryz.underlying39 h
 obtain ⟨a0,rfl,w0⟩:=fld_int (o:=0 * Tryz.prog.cellsOf 5) (v:=c0) (hys 0 (by omega)) (by omega) hE Tryz.underlying5 (by rw [hE];rfl)
 obtain ⟨a1,rfl,w1⟩:=fld_int (o:=1 * Tryz.prog.cellsOf 5) (v:=c1) (hys 1 (by omega)) (by omega) hE Tryz.underlying5 (by rw [hE];rfl)
 exact ⟨a0,a1,rfl,bounds_u8 w0,bounds_u8 w1⟩
theorem opn_sound {H:Type} {enc:TypeId × Value->H} {w:World} {base:Nat} {spare:Nat->Bool} {held:Bool} {n:Nat} {x:DataW H × List MemPlace} {s:List Value} (h:DataW.trod enc Tryz.prog w base spare held n 36 s=some x) (hs:s.length=16):∃ d:Sd,s=sndL d/\d.ok:=by
 have hU:Tryz.prog.cellsOf 22=1:=by kernel_rfl
 have hB:Tryz.prog.cellsOf 4=1:=by kernel_rfl
 have hE:Tryz.prog.cellsOf 5=1:=by kernel_rfl
 have hI:Tryz.prog.cellsOf 3=1:=by kernel_rfl
 have hV:Tryz.prog.cellsOf 33=5:=by kernel_rfl
 have hR:Tryz.prog.cellsOf 34=15:=by kernel_rfl
 obtain ⟨c0,c1,c2,c3,c4,c5,c6,c7,c8,c9,c10,c11,c12,c13,c14,c15,rfl⟩:=list16 hs
 obtain ⟨xs,k,_,_,_,hlen,hfs⟩:=DataW.trod_struct Tryz.underlying36 h
 have hl2:xs.length=2:=hlen
 have g0:DataW.trod enc Tryz.prog w base spare held k 34 (([c0,c1,c2,c3,c4,c5,c6,c7,c8,c9,c10,c11,c12,c13,c14,c15].drop 0).take (Tryz.prog.cellsOf 34))=xs[0]?:=hfs 0 _ rfl
 rw [List.getElem?_eq_getElem (by omega),hR] at g0
 obtain ⟨ys,m,_,_,_,hyl,hys⟩:=DataW.trod_array under_three g0
 have y0:=hys 0 (by omega)
 have y1:=hys 1 (by omega)
 have y2:=hys 2 (by omega)
 rw [hV,List.getElem?_eq_getElem (by omega)] at y0 y1 y2
 obtain ⟨va,ea,ha⟩:=trod_voice (c0:=c0) (c1:=c1) (c2:=c2) (c3:=c3) (c4:=c4) y0
 obtain ⟨vb,eb,hb⟩:=trod_voice (c0:=c5) (c1:=c6) (c2:=c7) (c3:=c8) (c4:=c9) y1
 obtain ⟨vc,ec,hc⟩:=trod_voice (c0:=c10) (c1:=c11) (c2:=c12) (c3:=c13) (c4:=c14) y2
 obtain ⟨a15,rfl,w15⟩:=fld_int (ty:=3) (o:=15) (v:=c15) (hfs 1 _ rfl) (by omega) hI Tryz.underlying3 rfl
 simp only [List.cons.injEq,and_true] at ea eb ec
 obtain ⟨rfl,rfl,rfl,rfl,rfl⟩:=ea
 obtain ⟨rfl,rfl,rfl,rfl,rfl⟩:=eb
 obtain ⟨rfl,rfl,rfl,rfl,rfl⟩:=ec
 exact ⟨⟨va,vb,vc,a15⟩,rfl,⟨ha,hb,hc⟩⟩
theorem opn_bytes {H:Type} {enc:TypeId × Value->H} {W:World} {v:Value} {n:Nat} {x:DataW H × List MemPlace} (hf:DataW.trod enc Tryz.prog W 0 (fun _=>true) true n 26 [v]=some x):∃ l,sliceAt W v l/\l.length<=maxLen:=by
 have c1:Tryz.prog.cellsOf 5=1:=by kernel_rfl
 rcases open_ints Tryz.underlying26 Tryz.underlying5 c1 hf with ⟨hc,_⟩ | ⟨ad,len',cap',zs,hc,_,hl,hm,hz,_,hcell,hwf⟩
 ·have e:v = .slice none 0 0:=by simpa using hc
  rw [e]
  exact ⟨[],Or.inl ⟨none,0,rfl,rfl⟩,by simp⟩
 ·have e:v = .slice (some ad) len' cap':=by simpa using hc
  rw [e]
  simp only [if_true] at hz
  by_cases h0:len'=0
  ·subst h0
   exact ⟨[],Or.inl ⟨some ad,cap',rfl,rfl⟩,by simp⟩
  ·have hs:=Pl.spot (hcell 0 (by omega))
   obtain ⟨g,o,sp⟩:=ad
   have hs':sp=none:=by
    cases sp with
    | none=>rfl
    | some x=>simp [Addr.add] at hs
   subst hs'
   refine ⟨(zs.take len').map (fun z=>UInt8.ofNat z.toNat),Or.inr ⟨g,o,cap',by rw [List.length_map,List.length_take,Nat.min_eq_left (by omega)],by rw [List.length_map,List.length_take];omega,World.block_lt_of_cell? W _ (hcell 0 (by omega)),fun j c hj=>?_⟩,by rw [List.length_map,List.length_take];omega⟩
   rw [List.getElem?_map] at hj
   obtain ⟨z,hz1,hz2⟩:=Option.map_eq_some_iff.1 hj
   have hjl:j < len':=by
    have:=(List.getElem?_eq_some_iff.1 hz1).1
    rw [List.length_take] at this;omega
   rw [List.getElem?_take_of_lt hjl] at hz1
   have hzj:j < zs.length:=(List.getElem?_eq_some_iff.1 hz1).1
   have hw:=bounds_u8 (hwf z (List.mem_of_getElem? hz1))
   have:=hcell j hzj
   rw [addr_add,show zs.getD j 0=z by simp [List.getD,hz1]] at this
   rw [this,<- hz2]
   rw [show (UInt8.ofNat z.toNat).toNat=z.toNat by simp;omega,show ((z.toNat:Nat):Int)=z by omega]
theorem sub_some {H:Type} {enc:TypeId × Value->H} {P:Program} {w:World} {base:Nat} {spare:Nat->Bool} {held:Bool} {n i o k:Nat} {ty:TypeId} {cs:List Value} {xs:List (DataW H × List MemPlace)}
 (h:DataW.trod enc P w base spare held n ty ((cs.drop o).take (P.cellsOf ty))=xs[i]?) (hi:i < xs.length) (hc:P.cellsOf ty=k):∃ y,DataW.trod enc P w base spare held n ty ((cs.drop o).take k)=some y:=by
 rw [hc,List.getElem?_eq_getElem hi] at h
 exact ⟨_,h⟩
theorem chain_list {l R:List Value} {n k m:Nat} (hm:n+k=m) (h:l.drop m=R):l.drop n=(l.drop n).take k++R:=by
 subst hm
 rw [<- h,<- List.drop_drop]
 exact (List.take_append_drop k _).symm
theorem last_list {l:List Value} {n k:Nat} (h:l.length<=n+k):l.drop n=(l.drop n).take k:=(List.take_of_length_le (by rw [List.length_drop];omega)).symm
theorem get_list {cs:List Value} (o:Nat) (h:o < cs.length):∃ v,cs[o]? = some v/\(cs.drop o).take 1=[v]:=⟨cs[o],List.getElem?_eq_getElem h,by rw [List.take_one,List.head?_drop,List.getElem?_eq_getElem h];rfl⟩
theorem open_mach {H:Type} {enc:TypeId × Value->H} {W:World} {base:Nat} {v:Value} {d:DataW H} {p:List MemPlace} (hv:Value.okWide Tryz.prog W .any base 41 v) (h:DataW.Trod enc Tryz.prog W 0 (fun _=>true) true 41 v d p) :
 ∃ (M:Mach) (S:Sl),v = .agg (machL M S).toArray/\M.ok/\SlAt W S M /\ ∀ j,j < 5->(M.byt j).length<=maxLen:=by
 have hU:Tryz.prog.cellsOf 22=1:=by kernel_rfl
 have hB:Tryz.prog.cellsOf 4=1:=by kernel_rfl
 have hE:Tryz.prog.cellsOf 5=1:=by kernel_rfl
 have hI:Tryz.prog.cellsOf 3=1:=by kernel_rfl
 have hM:Tryz.prog.cellsOf 41=75:=by kernel_rfl
 obtain ⟨cs,rfl,hsz⟩:=okWide_struct Tryz.underlying41 hv
 obtain ⟨l⟩:=cs
 have hl:l.length=75:=hsz.trans hM
 obtain ⟨fuel,hf0⟩:=h
 have hf:DataW.trod enc Tryz.prog W 0 (fun _=>true) true fuel 41 l=some (d,p):=hf0
 obtain ⟨xs,m,_,_,_,hlen,hfs⟩:=DataW.trod_struct Tryz.underlying41 hf
 have hx:xs.length=20:=hlen
 obtain ⟨y0,g0⟩:=sub_some (ty:=25) (o:=0) (k:=15) (hfs 0 _ rfl) (by omega) (by kernel_rfl)
 obtain ⟨m0,e0,k0⟩:=opn_cpu g0 (by simp [hl])
 obtain ⟨y1,g1⟩:=sub_some (ty:=25) (o:=15) (k:=15) (hfs 1 _ rfl) (by omega) (by kernel_rfl)
 obtain ⟨m1,e1,k1⟩:=opn_cpu g1 (by simp [hl])
 obtain ⟨u2,r2,e2⟩:=get_list (cs:=l) 30 (by omega)
 obtain ⟨y2,g2⟩:=sub_some (ty:=26) (o:=30) (k:=1) (hfs 2 _ rfl) (by omega) (by kernel_rfl)
 rw [e2] at g2
 obtain ⟨m2,k2,q2⟩:=opn_bytes g2
 obtain ⟨u3,r3,e3⟩:=get_list (cs:=l) 31 (by omega)
 obtain ⟨y3,g3⟩:=sub_some (ty:=26) (o:=31) (k:=1) (hfs 3 _ rfl) (by omega) (by kernel_rfl)
 rw [e3] at g3
 obtain ⟨m3,k3,q3⟩:=opn_bytes g3
 obtain ⟨u4,r4,e4⟩:=get_list (cs:=l) 32 (by omega)
 obtain ⟨y4,g4⟩:=sub_some (ty:=26) (o:=32) (k:=1) (hfs 4 _ rfl) (by omega) (by kernel_rfl)
 rw [e4] at g4
 obtain ⟨m4,k4,q4⟩:=opn_bytes g4
 obtain ⟨u5,r5,e5⟩:=get_list (cs:=l) 33 (by omega)
 obtain ⟨y5,g5⟩:=sub_some (ty:=26) (o:=33) (k:=1) (hfs 5 _ rfl) (by omega) (by kernel_rfl)
 rw [e5] at g5
 obtain ⟨m5,k5,q5⟩:=opn_bytes g5
 obtain ⟨u6,r6,e6⟩:=get_list (cs:=l) 34 (by omega)
 obtain ⟨y6,g6⟩:=sub_some (ty:=26) (o:=34) (k:=1) (hfs 6 _ rfl) (by omega) (by kernel_rfl)
 rw [e6] at g6
 obtain ⟨m6,k6,q6⟩:=opn_bytes g6
 obtain ⟨y7,g7⟩:=sub_some (ty:=29) (o:=35) (k:=6) (hfs 7 _ rfl) (by omega) (by kernel_rfl)
 obtain ⟨m7,n7,e7,k7,q7⟩:=opn_pads g7 (by simp [hl])
 obtain ⟨y8,g8⟩:=sub_some (ty:=31) (o:=41) (k:=4) (hfs 8 _ rfl) (by omega) (by kernel_rfl)
 obtain ⟨m8,e8,k8,q8⟩:=opn_timer g8 (by simp [hl])
 obtain ⟨y9,g9⟩:=sub_some (ty:=36) (o:=45) (k:=16) (hfs 9 _ rfl) (by omega) (by kernel_rfl)
 obtain ⟨m9,e9,k9⟩:=opn_sound g9 (by simp [hl])
 obtain ⟨y10,g10⟩:=sub_some (ty:=38) (o:=61) (k:=4) (hfs 10 _ rfl) (by omega) (by kernel_rfl)
 obtain ⟨m10,e10⟩:=opn_beam g10 (by simp [hl])
 obtain ⟨u11,r11,e11⟩:=get_list (cs:=l) 65 (by omega)
 obtain ⟨m11,rfl,w11⟩:=fld_int (ty:=22) (o:=65) (hfs 11 _ rfl) (by omega) hU Tryz.underlying22 r11
 obtain ⟨u12,r12,e12⟩:=get_list (cs:=l) 66 (by omega)
 obtain ⟨m12,rfl,w12⟩:=fld_int (ty:=22) (o:=66) (hfs 12 _ rfl) (by omega) hU Tryz.underlying22 r12
 obtain ⟨u13,r13,e13⟩:=get_list (cs:=l) 67 (by omega)
 obtain ⟨m13,rfl⟩:=fld_bool (ty:=4) (o:=67) (hfs 13 _ rfl) (by omega) hB Tryz.underlying4 r13
 obtain ⟨u14,r14,e14⟩:=get_list (cs:=l) 68 (by omega)
 obtain ⟨m14,rfl⟩:=fld_bool (ty:=4) (o:=68) (hfs 14 _ rfl) (by omega) hB Tryz.underlying4 r14
 obtain ⟨y15,g15⟩:=sub_some (ty:=39) (o:=69) (k:=2) (hfs 15 _ rfl) (by omega) (by kernel_rfl)
 obtain ⟨m15,n15,e15,k15,q15⟩:=opn_mail g15 (by simp [hl])
 obtain ⟨u16,r16,e16⟩:=get_list (cs:=l) 71 (by omega)
 obtain ⟨m16,rfl⟩:=fld_bool (ty:=4) (o:=71) (hfs 16 _ rfl) (by omega) hB Tryz.underlying4 r16
 obtain ⟨u17,r17,e17⟩:=get_list (cs:=l) 72 (by omega)
 obtain ⟨m17,rfl,w17⟩:=fld_int (ty:=3) (o:=72) (hfs 17 _ rfl) (by omega) hI Tryz.underlying3 r17
 obtain ⟨u18,r18,e18⟩:=get_list (cs:=l) 73 (by omega)
 obtain ⟨m18,rfl,w18⟩:=fld_int (ty:=3) (o:=73) (hfs 18 _ rfl) (by omega) hI Tryz.underlying3 r18
 obtain ⟨u19,r19,e19⟩:=get_list (cs:=l) 74 (by omega)
 obtain ⟨m19,rfl,w19⟩:=fld_int (ty:=3) (o:=74) (hfs 19 _ rfl) (by omega) hI Tryz.underlying3 r19
 have hL:l=(l.drop 0).take 15++((l.drop 15).take 15++((l.drop 30).take 1++((l.drop 31).take 1++((l.drop 32).take 1++((l.drop 33).take 1++((l.drop 34).take 1++((l.drop 35).take 6++((l.drop 41).take 4++((l.drop 45).take 16++((l.drop 61).take 4++((l.drop 65).take 1++((l.drop 66).take 1++((l.drop 67).take 1++((l.drop 68).take 1++((l.drop 69).take 2++((l.drop 71).take 1++((l.drop 72).take 1++((l.drop 73).take 1++((l.drop 74).take 1))))))))))))))))))) :=
  List.drop_zero.symm.trans (chain_list (n:=0) (m:=15) rfl (chain_list (n:=15) (m:=30) rfl (chain_list (n:=30) (m:=31) rfl (chain_list (n:=31) (m:=32) rfl (chain_list (n:=32) (m:=33) rfl (chain_list (n:=33) (m:=34) rfl (chain_list (n:=34) (m:=35) rfl (chain_list (n:=35) (m:=41) rfl (chain_list (n:=41) (m:=45) rfl (chain_list (n:=45) (m:=61) rfl (chain_list (n:=61) (m:=65) rfl (chain_list (n:=65) (m:=66) rfl (chain_list (n:=66) (m:=67) rfl (chain_list (n:=67) (m:=68) rfl (chain_list (n:=68) (m:=69) rfl (chain_list (n:=69) (m:=71) rfl (chain_list (n:=71) (m:=72) rfl (chain_list (n:=72) (m:=73) rfl (chain_list (n:=73) (m:=74) rfl (last_list (by omega)))))))))))))))))))))
 rw [e0,e1,e2,e3,e4,e5,e6,e7,e8,e9,e10,e11,e12,e13,e14,e15,e16,e17,e18,e19] at hL
 refine ⟨⟨m0,m1,m2,m3,m4,m5,m6,m7,n7,m8,m9,m10,m11,m12,m13,m14,m15,n15,m16,m17,m18,m19⟩,⟨u2,u3,u4,u5,u6⟩,by rw [hL];rfl,⟨k0,k1,k7,q7,k8,q8,k9,bounds_u16 w11,bounds_u16 w12,k15,q15⟩,fun j hj=>?_,fun j hj=>?_⟩
 ·rcases five hj with rfl | rfl | rfl | rfl | rfl
  ·exact k2
  ·exact k3
  ·exact k4
  ·exact k5
  ·exact k6
 ·rcases five hj with rfl | rfl | rfl | rfl | rfl
  ·exact q2
  ·exact q3
  ·exact q4
  ·exact q5
  ·exact q6
instance : Inhabited Inp := ⟨⟨0, 0, 0⟩⟩
structure Inp.fits (x : Inp) : Prop where
 c:-9223372036854775808<=x.c/\x.c<=9223372036854775807
 p:-9223372036854775808<=x.p/\x.p<=9223372036854775807
 d:0<=x.d/\x.d<=255
theorem opn_inp {H:Type} {enc:TypeId × Value->H} {w:World} {base:Nat} {spare:Nat->Bool} {held:Bool} {n:Nat} {x:DataW H × List MemPlace} {s:List Value} (h:DataW.trod enc Tryz.prog w base spare held n 54 s=some x) (hs:s.length=3):∃ p:Inp,s=[.int .i64 p.c,.int .i64 p.p,.int .u8 p.d]/\p.fits:=by
 have hE:Tryz.prog.cellsOf 5=1:=by kernel_rfl
 have hI:Tryz.prog.cellsOf 3=1:=by kernel_rfl
 obtain ⟨c0,c1,c2,rfl⟩:=list3 hs
 obtain ⟨xs,m,_,_,_,hlen,hfs⟩:=DataW.trod_struct Tryz.underlying54 h
 have hl:xs.length=3:=hlen
 obtain ⟨a0,rfl,wa0⟩:=fld_int (ty:=3) (o:=0) (v:=c0) (hfs 0 _ rfl) (by omega) hI Tryz.underlying3 rfl
 obtain ⟨a1,rfl,wa1⟩:=fld_int (ty:=3) (o:=1) (v:=c1) (hfs 1 _ rfl) (by omega) hI Tryz.underlying3 rfl
 obtain ⟨a2,rfl,wa2⟩:=fld_int (ty:=5) (o:=2) (v:=c2) (hfs 2 _ rfl) (by omega) hE Tryz.underlying5 rfl
 exact ⟨⟨a0,a1,a2⟩,rfl,bounds_i64 wa0,bounds_i64 wa1,bounds_u8 wa2⟩
theorem open_inputs {H:Type} {enc:TypeId × Value->H} {W:World} {base:Nat} {v:Value} {d:DataW H} {p:List MemPlace} (hv:Value.okWide Tryz.prog W .any base 42 v) (hd:DataW.Trod enc Tryz.prog W 0 (fun _=>true) true 42 v d p) :
 ∃ l:List Inp,InpAt W.heap.size W v l/\l.length<=maxLen /\ ∀ x ∈ l,x.fits:=by
 obtain ⟨a,len,cap,rfl⟩:=okWide_slice Tryz.underlying42 hv
 obtain ⟨fuel,hf⟩:=hd
 have c3:Tryz.prog.cellsOf 54=3:=by kernel_rfl
 rcases Go.Deep.open_slice Tryz.underlying42 hf with ⟨hc,_⟩ | ⟨ad,len',cap',m,n,D,Pp,hc,_,hl,hm,hmm,_,hx⟩
 ·have e:(Value.slice a len cap) = .slice none 0 0:=by simpa [Value.cells] using hc
  rw [e]
  exact ⟨[],Or.inl ⟨rfl,none,0,rfl⟩,by simp,by simp⟩
 ·have e:(Value.slice a len cap) = .slice (some ad) len' cap':=by simpa [Value.cells] using hc
  rw [e]
  simp only [if_true] at hmm
  by_cases h0:len'=0
  ·subst h0
   exact ⟨[],Or.inl ⟨rfl,some ad,cap',rfl⟩,by simp,by simp⟩
  ·have hall:∀ i,i < len'->∃ q:Inp,(W.cell? (ad.add (i * 3))=some (.int .i64 q.c)/\W.cell? (ad.add (i * 3+1))=some (.int .i64 q.p)/\W.cell? (ad.add (i * 3+2))=some (.int .u8 q.d))/\q.fits:=fun i hi=>by
    obtain ⟨cs',h1,h2⟩:=hx i (by omega)
    rw [c3] at h1
    obtain ⟨_,hlen,hcell⟩:=World.cells?_some h1
    obtain ⟨q,rfl,hq⟩:=opn_inp h2 hlen
    have e0:=hcell 0 (by omega)
    have e1:=hcell 1 (by omega)
    have e2:=hcell 2 (by omega)
    rw [Go.Deep.add_add] at e0 e1 e2
    exact ⟨q,⟨by simpa using e0,by simpa using e1,by simpa using e2⟩,hq⟩
   obtain ⟨q,hq⟩:=Go.Deep.choose_lt hall
   have hs:=Pl.spot ((hq 0 (by omega)).1.1)
   obtain ⟨g,o,sp⟩:=ad
   have hs':sp=none:=by
    cases sp with
    | none=>rfl
    | some x=>simp [Addr.add] at hs
   subst hs'
   have hlt:g < W.heap.size:=World.block_lt_of_cell? W _ ((hq 0 (by omega)).1.1)
   refine ⟨(List.range len').map q,Or.inr ⟨g,o,cap',by rw [List.length_map,List.length_range],by rw [List.length_map,List.length_range];exact hl,hlt,hlt,fun j x hj=>?_⟩,by rw [List.length_map,List.length_range];omega,fun x hx=>?_⟩
   ·rw [List.getElem?_map] at hj
    obtain ⟨i,hi1,hi2⟩:=Option.map_eq_some_iff.1 hj
    obtain ⟨hjl,hi3⟩:=List.getElem?_eq_some_iff.1 hi1
    rw [List.length_range] at hjl
    rw [List.getElem_range] at hi3
    subst hi3
    subst hi2
    obtain ⟨⟨e0,e1,e2⟩,_⟩:=hq j hjl
    rw [addr_add] at e0 e1 e2
    rw [Nat.mul_comm 3 j]
    exact ⟨e0,e1,e2⟩
   ·obtain ⟨i,hi,rfl⟩:=List.mem_map.1 hx
    exact (hq i (List.mem_range.1 hi)).2
/-! ### inputs that are right -/
theorem chkL_pair:∀ (l:List Inp) (a:Int),chkL l a=0->Inps l /\ ∀ x ∈ l,x.c<=400000
 | [],a,_=>⟨List.Pairwise.nil,fun x hx=>by cases hx⟩
 | y :: l,a,h=>by
  unfold chkL at h
  split at h
  ·cases h
  ·rename_i h1
   split at h
   ·obtain ⟨i1,i2⟩:=chkL_pair l y.c h
    exact ⟨List.pairwise_cons.2 ⟨fun x hx=>(chkL_ok l y.c h x hx).2,i1⟩,fun x hx=>by
     rcases List.mem_cons.1 hx with rfl | hx
     ·omega
     ·exact i2 x hx⟩
   ·cases h
theorem chkL_of:∀ (l:List Inp) (a:Int),Inps l->(∀ x ∈ l,a<=x.c/\x.c<=400000/\(x.p=0 \/ x.p=1))->chkL l a=0
 | [],a,_,_=>rfl
 | y :: l,a,hp,h=>by
  obtain ⟨h1,h2,h3⟩:=h y List.mem_cons_self
  have hp':=List.pairwise_cons.1 hp
  rw [chk0 (by omega) h3]
  exact chkL_of l y.c hp'.2 (fun x hx=>⟨hp'.1 x hx,(h x (List.mem_cons_of_mem _ hx)).2⟩)
theorem chkIn_inv {l:List Inp} {a:Int} (h:chkIn l a=0):l.length<=40/\chkL l a=0:=by
 unfold chkIn at h
 split at h
 ·cases h
 ·exact ⟨by omega,h⟩
theorem chk_rest {l:List Inp} {a c:Int} (h:chkIn l a=0) (hc:a<=c):chkIn (l.filter (fun x=>decide (c<=x.c))) c=0:=by
 obtain ⟨h1,h2⟩:=chkIn_inv h
 obtain ⟨h3,h4⟩:=chkL_pair l a h2
 unfold chkIn
 rw [if_neg (by have:=List.length_filter_le (fun x:Inp=>decide (c<=x.c)) l;omega)]
 refine chkL_of _ _ (List.Pairwise.filter _ h3) (fun x hx=>?_)
 obtain ⟨hx1,hx2⟩:=List.mem_filter.1 hx
 exact ⟨by simpa using hx2,h4 x hx1,(chkL_ok l a h2 x hx1).1⟩
def rest (l:List Inp) (c:Int) (j:Nat):List Inp:=(l.take j).filter (fun x=>decide (c<=x.c))
/-! ### what lies where -/
structure PA (w : World) (M : Mach) (S : Sl) (v : Value) (l : List Inp) (w5 : World) (X : Mach) (SX : Sl) (p1 p2 p3 : Value) (k : Cs) (Y : World) : Prop where
 low:Below w.heap.size w Y
 m:Bx Y w.heap.size (machL M S)
 sm:SlAt Y S M
 inp:InpAt Y.heap.size Y v l
 r:R3 w5 X SX [p1,p2,p3] Y
 sx:SlAt Y SX X
 sh:ShAt Y p1 p2 p3 k.ln k.sm k.s.l
theorem PA.kept {w:World} {M:Mach} {S:Sl} {v:Value} {l:List Inp} {w5:World} {X:Mach} {SX:Sl} {p1 p2 p3:Value} {k:Cs} {Y Y':World} (h:PA w M S v l w5 X SX p1 p2 p3 k Y) (hb:Below Y.heap.size Y Y'):PA w M S v l w5 X SX p1 p2 p3 k Y' :=
 ⟨stp h.low hb,h.m.kept hb,h.sm.kept hb,(h.inp.kept hb).mono hb.size,h.r.kept hb,h.sx.kept hb,h.sh.kept hb⟩
/-! ### a frame over one letter -/
def Mach.aft (M:Mach) (l:List Inp) (j:Nat):Mach:=(Cs.clocks ⟨⟨M,0,[]⟩,l,[],[]⟩ j).s.M
def wnx (M:Mach) (l:List Inp) (n j:Nat):Nat:=(min (M.aft l j).next (M.clock+n) - M.clock).toNat
inductive Way (M : Mach) (l : List Inp) (n : Nat) : List Nat -> Nat -> Prop
 | nil:Way M l n [] 0
 | cons {js:List Nat} {j:Nat}:Way M l n js j->j < n->Way M l n (js++[j]) (wnx M l n j)
structure InR (M : Mach) (l : List Inp) : Prop where
 p:Inps l
 ge:∀ x ∈ l,M.clock<=x.c
 ck:chkIn l M.clock=0
 dn:∀ x ∈ l,0<=x.d/\x.d<=255
theorem InR.of {M:Mach} {l:List Inp} (h:chkIn l M.clock=0) (hd:∀ x ∈ l,0<=x.d/\x.d<=255):InR M l:=⟨(chkL_pair l _ (chkIn_inv h).2).1,fun x hx=>(chkL_ok l _ (chkIn_inv h).2 x hx).2,h,hd⟩
section
variable {M : Mach} {l : List Inp} {n j : Nat} {js : List Nat}
theorem aft_clock (h:InR M l) (j:Nat):(M.aft l j).clock=M.clock+j:=(coming_after ⟨⟨M,0,[]⟩,l,[],[]⟩ l rfl h.p h.ge j).1
theorem aft_add (h:InR M l) (a b:Nat):M.aft l (a+b)=(M.aft l a).aft (comes (M.clock+a) l) b:=by
 rw [comes_filter _ _ h.p]
 exact (two_parts M l h.p h.ge a b).s.M
theorem InR.aft (h:InR M l) (j:Nat):InR (M.aft l j) (comes (M.clock+j) l):=by
 rw [comes_filter _ _ h.p]
 have hc:=aft_clock h j
 exact InR.of (by rw [hc];exact chk_rest h.ck (by omega)) (fun x hx=>h.dn x (List.mem_filter.1 hx).1)
theorem next_gt (X:Mach):X.clock+1<=X.next:=by unfold Mach.next;omega
theorem wnx_bd (h:InR M l) (hj:j < n):j < wnx M l n j/\wnx M l n j<=n:=by
 have:=aft_clock h j
 have:=next_gt (M.aft l j)
 unfold wnx
 omega
theorem wnx_int (h:InR M l) (hj:j < n):min (M.aft l j).next (M.clock+n) - (M.clock+j)=((wnx M l n j - j:Nat):Int):=by
 have:=aft_clock h j
 have:=next_gt (M.aft l j)
 unfold wnx
 omega
theorem Way.le (h:InR M l) (w:Way M l n js j):j<=n/\js.length<=j:=by
 induction w with
 | nil=>exact ⟨Nat.zero_le _,Nat.le_refl _⟩
 | @cons js j w hj ih =>
  have:=wnx_bd h hj
  rw [List.length_append]
  exact ⟨this.2,by simp;omega⟩
theorem aft_frame (hf:M.fit) (h19:M.b.f<=19000) (hj:j<=500):(M.aft l j).b.f<=20000:=by
 have hb:=hf.b
 have hrn:=clocks_runs ⟨⟨M,0,[]⟩,l,[],[]⟩ ⟨hb.l0,hb.l1,hb.a0,hb.a1,hb.f0,by show M.b.f<=20000;omega⟩ h19 j (by omega)
 show (Cs.clocks ⟨⟨M,0,[]⟩,l,[],[]⟩ j).s.M.b.f<=20000
 rw [hrn.f]
 show bmF M.b.l M.b.a M.b.f j<=20000
 have:=hb.l0;have:=hb.l1;have:=hb.a0;have:=hb.a1
 unfold bmF
 omega
end
def fErr (M:Mach) (l:List Inp) (n:Int):Int:=if runErr M l 0=0 then (if 0<=n/\n<=500/\M.clock+n<=200000 then 0 else 3) else runErr M l 0
structure Lw (q : Nat) (g : Option Nat) (w w' : World) : Prop where
 os:w'.os=w.os
 tape:w'.tape=w.tape
 output:w'.output=w.output
 size:w.heap.size<=w'.heap.size
 block:∀ k,k < w.heap.size->k ≠ q->g ≠ some k->w'.heap[k]? = w.heap[k]?
theorem Lw.below {q B:Nat} {g:Option Nat} {w w':World} (h:Lw q g w w') (hB:B<=w.heap.size) (hq:B<=q) (hg:∀ k,g=some k->B<=k):Below B w w' :=
 ⟨h.os,h.tape,h.output,h.size,fun k hk=>h.block k (by omega) (by omega) (fun e=>by have:=hg k e;omega)⟩
theorem Lw.of {q:Nat} {g:Option Nat} {w w':World} (h:Below w.heap.size w w'):Lw q g w w':=⟨h.os,h.tape,h.output,h.size,fun k hk _ _=>h.block k hk⟩
structure Jw (q : Nat) (J : List Dd -> Option Nat -> World -> Prop) : Prop where
 same:∀ acc g w w',J acc g w->w.heap.size<=w'.heap.size->w'.heap[q]? = w.heap[q]?->(∀ k,g=some k->w'.heap[k]? = w.heap[k]?)->J acc g w'
 q:∀ acc g w,J acc g w->q < w.heap.size
 g:∀ acc g w,J acc g w->∀ k,g=some k->k < w.heap.size
theorem SlAt.same {W W':World} {S:Sl} {M:Mach} (h:SlAt W S M) (hz:W.heap.size<=W'.heap.size) (hb:∀ j,j < 5->∀ a m c,S.get j = .slice (some a) m c->0 < m->W'.heap[a.block]? = W.heap[a.block]?):SlAt W' S M:=fun j hj=>by
 rcases h j hj with h0 | ⟨g,o',cap,e1,e2,e3,e4⟩
 ·exact Or.inl h0
 ·by_cases hl:0 < (M.byt j).length
  ·exact Or.inr ⟨g,o',cap,e1,e2,Nat.lt_of_lt_of_le e3 hz,fun i c hi=>(World.cell?_of_block (show W'.heap[g]? = W.heap[g]? from hb j hj _ _ _ e1 hl)).trans (e4 i c hi)⟩
  ·have hn:M.byt j=[]:=List.eq_nil_of_length_eq_zero (by omega)
   exact Or.inl ⟨_,cap,by rw [e1,hn];rfl,hn⟩
theorem SlAt.lt {W:World} {S:Sl} {M:Mach} (h:SlAt W S M):∀ j,j < 5->∀ a m c,S.get j = .slice (some a) m c->0 < m->a.block < W.heap.size:=fun j hj a m c e hm=>by
 rcases h j hj with ⟨_,_,e0,_⟩ | ⟨g,o',cap,e1,e2,e3,e4⟩
 ·rw [e0] at e;cases e;omega
 ·rw [e1] at e;cases e;exact e3
def SlOff (g:Option Nat) (S:Sl):Prop:=∀ j,j < 5->∀ a m c,S.get j = .slice (some a) m c->0 < m->g ≠ some a.block
structure FI (q : Nat) (w : World) (J : List Dd -> Option Nat -> World -> Prop) (X : Mach) (SX : Sl) (acc : List Dd) (g : Option Nat) (Y : World) : Prop where
 low:Lw q none w Y
 bx:Bx Y w.heap.size (machL X SX)
 rb:Bx Y (w.heap.size+1) (machL zeroM nilS)
 sl:SlAt Y SX X
 nw:SlNew (w.heap.size+2) SX
 off:SlOff g SX
 jj:J acc g Y
 gb:∀ k,g=some k->w.heap.size+2<=k
structure FR (q : Nat) (w : World) (J : List Dd -> Option Nat -> World -> Prop) (X : Mach) (SX : Sl) (acc : List Dd) (g : Option Nat) (V : World) : Prop where
 low:Lw q none w V
 rb:Bx V (w.heap.size+1) (machL X SX)
 sl:SlAt V SX X
 jj:J acc g V
 nw:SlNew (w.heap.size+2) SX
theorem Lw.trans {q:Nat} {g:Option Nat} {w Y Y':World} (h:Lw q none w Y) (k:Lw q g Y Y') (hg:∀ k,g=some k->w.heap.size<=k):Lw q none w Y' :=
 ⟨k.os.trans h.os,k.tape.trans h.tape,k.output.trans h.output,Nat.le_trans h.size k.size,fun i hi hq _=>(k.block i (Nat.lt_of_lt_of_le hi h.size) hq (fun e=>by have:=hg i e;omega)).trans (h.block i hi hq (by simp))⟩
theorem Lw.below0 {q:Nat} {w0 w Y:World} (h:Lw q none w Y) (h0:Below w0.heap.size w0 w) (hq:w0.heap.size<=q):Below w0.heap.size w0 Y:=h0.trans (h.below h0.size hq (fun k e=>by cases e))
theorem Lw.sets {q b o:Nat} {g:Option Nat} {w Y:World} (h:Lw q g w Y) (hb:w.heap.size<=b) (vs:List Value):Lw q g w (Y.setCells b o vs):=by
 have h1:Below b Y (Y.setCells b o vs):=below_sets' (Below.refl _ _) (Nat.le_refl _) vs o
 exact ⟨h1.os.trans h.os,h1.tape.trans h.tape,h1.output.trans h.output,Nat.le_trans h.size h1.size,fun k hk hq hg=>(h1.block k (by omega)).trans (h.block k hk hq hg)⟩
theorem nil_slAt (V:World):SlAt V nilS zeroM:=fun j hj=>by
 have hc:j=0 \/ j=1 \/ j=2 \/ j=3 \/ j=4:=by omega
 rcases hc with rfl | rfl | rfl | rfl | rfl <;> exact Or.inl ⟨none,0,rfl,rfl⟩
section
variable {w0 w Y Y' : World} {q : Nat} {J : List Dd -> Option Nat -> World -> Prop} {X : Mach} {SX : Sl} {acc acc' : List Dd} {g g' : Option Nat}
theorem FI.kept (hJ:Jw q J) (h:FI q w J X SX acc g Y) (hb:Below Y.heap.size Y Y'):FI q w J X SX acc g Y' :=
 ⟨h.low.trans (Lw.of (g:=none) hb) (fun k e=>by cases e),h.bx.kept hb,h.rb.kept hb,h.sl.kept hb,h.nw,h.off,hJ.same _ _ _ _ h.jj hb.size (hb.block _ (hJ.q _ _ _ h.jj)) (fun k e=>hb.block _ (hJ.g _ _ _ h.jj k e)),h.gb⟩
theorem FI.look (hq:q < w.heap.size) (h:FI q w J X SX acc g Y) (hl:Lw q g Y Y') (hj:J acc' g' Y') (hg:g'=g \/ ∃ k,g'=some k/\Y.heap.size<=k):FI q w J X SX acc' g' Y':=by
 have b0:=h.bx.z
 have b1:=h.rb.z
 refine ⟨h.low.trans hl (fun k e=>by have:=h.gb k e;omega),h.bx.same hl.size (hl.block _ b0 (by omega) (fun e=>by have:=h.gb _ e;omega)),h.rb.same hl.size (hl.block _ b1 (by omega) (fun e=>by have:=h.gb _ e;omega)),h.sl.same hl.size (fun j hj a m c e hm=>hl.block _ (h.sl.lt j hj a m c e hm) (by have:=h.nw j hj a m c e;omega) (h.off j hj a m c e hm)),h.nw,?_,hj,?_⟩
 ·rcases hg with rfl | ⟨k,rfl,hk⟩
  ·exact h.off
  ·intro j hj a m c e hm e'
   have:=h.sl.lt j hj a m c e hm
   cases e'
   omega
 ·rcases hg with rfl | ⟨k,rfl,hk⟩
  ·exact h.gb
  ·intro k' e
   cases e
   omega
theorem FI.of {L:List Value} {X':Mach} {S':Sl} (hJ:Jw q J) (hq:q < w.heap.size) (hl:Lw q none w Y) (hb:Bx Y w.heap.size L) (hL:L.length=75) (hr:Bx Y (w.heap.size+1) (machL zeroM nilS)) (hj:J acc g Y) (hg:∀ k,g=some k->w.heap.size+2<=k) (hs:SlAt Y S' X') (hn:SlNew (w.heap.size+2) S') (ho:SlOff g S'):FI q w J X' S' acc g (Y.setCells w.heap.size 0 (machL X' S')):=by
 have h1:=hb.puts 0 (machL X' S') (by rw [machL_len,hL];omega)
 rw [putL_whole _ _ (by rw [machL_len,hL])] at h1
 exact ⟨hl.sets (by omega) _,h1,DW.bb hr (by omega),hs.off hn (by omega) _ _,hn,ho,hJ.same _ _ _ _ hj (Nat.le_of_eq (size_sets _ _ _ _).symm) (heap_sets_far (by omega) _ _ _) (fun k e=>heap_sets_far (by have:=hg k e;omega) _ _ _),hg⟩
theorem FI.put {X':Mach} {S':Sl} (hJ:Jw q J) (hq:q < w.heap.size) (h:FI q w J X SX acc g Y) (hs:SlAt Y S' X') (hn:SlNew (w.heap.size+2) S') (ho:SlOff g S'):FI q w J X' S' acc g (Y.setCells w.heap.size 0 (machL X' S')):=FI.of hJ hq h.low h.bx (machL_len _ _) h.rb h.jj h.gb hs hn ho
theorem FI.far {b o:Nat} (hJ:Jw q J) (hq:q < w.heap.size) (h:FI q w J X SX acc g Y) (hb:w.heap.size+2<=b) (hs:∀ j,j < 5->∀ a m c,SX.get j = .slice (some a) m c->0 < m->a.block ≠ b) (hg:g ≠ some b) (vs:List Value):FI q w J X SX acc g (Y.setCells b o vs) :=
 ⟨h.low.sets (by omega) _,DW.bb h.bx (by omega),DW.bb h.rb (by omega),h.sl.same (Nat.le_of_eq (size_sets _ _ _ _).symm) (fun j hj a m c e hm=>heap_sets_far (hs j hj a m c e hm) _ _ _),h.nw,h.off,hJ.same _ _ _ _ h.jj (Nat.le_of_eq (size_sets _ _ _ _).symm) (heap_sets_far (by omega) _ _ _) (fun k e=>heap_sets_far (fun e'=>hg (by rw [e,e'])) _ _ _),h.gb⟩
theorem FI.ret {X':Mach} {S':Sl} (hJ:Jw q J) (hq:q < w.heap.size) (h:FI q w J X SX acc g Y) (hs:SlAt Y S' X') (hn:SlNew (w.heap.size+2) S'):FR q w J X' S' acc g (Y.setCells (w.heap.size+1) 0 (machL X' S')):=by
 have h1:=h.rb.puts 0 (machL X' S') (by rw [machL_len,machL_len];omega)
 rw [putL_whole _ _ (by rw [machL_len,machL_len])] at h1
 exact ⟨h.low.sets (by omega) _,h1,hs.off hn (by omega) _ _,hJ.same _ _ _ _ h.jj (Nat.le_of_eq (size_sets _ _ _ _).symm) (heap_sets_far (by omega) _ _ _) (fun k e=>heap_sets_far (by have:=h.gb k e;omega) _ _ _),hn⟩
end
theorem nil_new (n:Nat):SlNew n nilS:=fun j hj a m c e=>by
 have hc:j=0 \/ j=1 \/ j=2 \/ j=3 \/ j=4:=by omega
 rcases hc with rfl | rfl | rfl | rfl | rfl <;> cases e
theorem Lk.run_all (M:Mach) (S:Sl) (v:Value) (l:List Inp) (n:Nat) (w:World) (hs:SlAt w S M) (hz:∀ j,j < 5->(M.byt j).length<=9223372036854775807) (hok:M.ok) (hsh:shapesAt w) (hin:InpAt w.heap.size w v l) (hd:∀ x ∈ l,0<=x.d/\x.d<=255) (hn:n<=9223372036854775807) :
 Calls Tryz.prog 10 #[.agg (machL M S).toArray,v,.int .i64 n] w fun e w'=>∃ (X':Mach) (S':Sl) (a1 a2 a3:Option Addr) (n1 n2 n3 c1 c2 c3:Nat),e = .returned (.tuple #[.agg (machL X' S').toArray,.agg #[.slice a1 n1 c1,.slice a2 n2 c2,.slice a3 n3 c3],.int .i64 (runErr M l n)])/\SlAt w' S' X'/\SlNew w.heap.size S'/\Below w.heap.size w w'/\(runErr M l n=0->X'=M.aft l n/\X'.fit):=by
 by_cases hr:runErr M l n=0
 ·have h1:M.chk=0:=by
   unfold runErr at hr
   split at hr
   ·assumption
   ·exact hr
  have h2:chkIn l M.clock=0:=by
   unfold runErr at hr
   rw [if_pos h1] at hr
   split at hr
   ·assumption
   ·exact hr
  have h3:0<=(n:Int)/\(n:Int)<=20000/\M.clock+n<=200000:=by
   unfold runErr at hr
   rw [if_pos h1,if_pos h2] at hr
   split at hr
   ·assumption
   ·cases hr
  have hf:=chk_fit hok h1
  refine (Lk.run_ok M S v l n w hs hsh hin hd hf (chk_frame h1) h2 ⟨by omega,h3.2.2⟩).mono ?_
  rintro e w' ⟨F,N,vln,vsm,vw,rfl,hT,hB,_,hN,hb⟩
  obtain ⟨p1,c1,e1⟩:=row_len hT.ln
  obtain ⟨p2,c2,e2⟩:=row_len hT.sm
  obtain ⟨p3,c3,e3⟩:=row_len hT.ws
  subst e1 e2 e3
  exact ⟨_,F.S,p1,p2,p3,_,_,_,c1,c2,c3,by rw [hr],hT.sl,hN.mono hB,hb,fun _=>⟨rfl,hT.fit⟩⟩
 ·refine (Lk.run_bad M S v l n w hs hz hok hin ⟨by omega,by omega⟩ hr).mono ?_
  rintro e w' ⟨rfl,hb⟩
  exact ⟨zeroM,nilS,none,none,none,0,0,0,0,0,0,rfl,nil_slAt _,nil_new _,hb,fun h=>absurd h hr⟩
end Go.Proofs.YtbhpfkjfijdmaaaGreatDoor
