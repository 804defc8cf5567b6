/-
  Parts of a proof, joined.
-/
import Derived.Test.YtbhpfkjfijdmaaaGreatDoorZw14
import Derived.Test.YtbhpfkjfijdmaaaGreatDoorZw26
import Derived.Test.YtbhpfkjfijdmaaaGreatDoorZw30
import Derived.Deep.Slices
import Derived.Test.YtbhpfkjfijdmaaaGreatDoorZw37
import Derived.Test.YtbhpfkjfijdmaaaGreatDoorZw39
import Derived.Deep.CutBlock
import Derived.BigQuiet
namespace Go.Proofs.YtbhpfkjfijdmaaaGreatDoor
open Go.ChangeShapes Go.WideShapes Go.ChangeAt Go.RowKit
set_option linter.unusedVariables false
set_option maxRecDepth 100000
set_option maxHeartbeats 800000
theorem fld {H:Type} {enc:TypeId × Value->H} {P:Program} {w:World} {base:Nat} {spare:Nat->Bool} {held:Bool} {n i o:Nat} {ty:TypeId} {cs:List Value} {xs:List (DataW H × List MemPlace)}
 (h:DataW.trod enc P w base spare held n ty ((cs.drop o).take (P.cellsOf ty))=xs[i]?) (hi:i < xs.length) (hc:P.cellsOf ty=1) {v:Value} (hv:cs[o]? = some v):∃ y,DataW.trod enc P w base spare held n ty [v]=some y:=by
 rw [hc,List.getElem?_eq_getElem hi] at h
 have e:(cs.drop o).take 1=[v]:=by
  rw [List.take_one,List.head?_drop,hv]
  rfl
 rw [e] at h
 exact ⟨_,h⟩
theorem fld_int {H:Type} {enc:TypeId × Value->H} {P:Program} {w:World} {base:Nat} {spare:Nat->Bool} {held:Bool} {n i o:Nat} {ty:TypeId} {cs:List Value} {xs:List (DataW H × List MemPlace)} {k:IntKind}
 (h:DataW.trod enc P w base spare held n ty ((cs.drop o).take (P.cellsOf ty))=xs[i]?) (hi:i < xs.length) (hc:P.cellsOf ty=1) (ht:P.underlying ty=some (.int k)) {v:Value} (hv:cs[o]? = some v):∃ a:Int,v = .int k a/\(Lit.int k a).wf=true:=by
 obtain ⟨y,hy⟩:=fld h hi hc hv
 obtain ⟨a,e,_,hw⟩:=DataW.trod_int ht hy
 simp only [List.cons.injEq,and_true] at e
 exact ⟨a,e,hw⟩
theorem fld_bool {H:Type} {enc:TypeId × Value->H} {P:Program} {w:World} {base:Nat} {spare:Nat->Bool} {held:Bool} {n i o:Nat} {ty:TypeId} {cs:List Value} {xs:List (DataW H × List MemPlace)}
 (h:DataW.trod enc P w base spare held n ty ((cs.drop o).take (P.cellsOf ty))=xs[i]?) (hi:i < xs.length) (hc:P.cellsOf ty=1) (ht:P.underlying ty=some .bool) {v:Value} (hv:cs[o]? = some v):∃ a:Bool,v = .bool a:=by
 obtain ⟨y,hy⟩:=fld h hi hc hv
 obtain ⟨a,e,_⟩:=DataW.trod_bool ht hy
 simp only [List.cons.injEq,and_true] at e
 exact ⟨a,e⟩
theorem trod_voice {H:Type} {enc:TypeId × Value->H} {w:World} {base:Nat} {spare:Nat->Bool} {held:Bool} {m:Nat} {c0 c1 c2 c3 c4:Value} {x:DataW H × List MemPlace} (h:DataW.trod enc Tryz.prog w base spare held m 33 [c0,c1,c2,c3,c4]=some x) :
 ∃ v:Vc,[c0,c1,c2,c3,c4]=vcs v/\v.ok:=by
 have hU:Tryz.prog.cellsOf 22=1:=by kernel_rfl
 have hB:Tryz.prog.cellsOf 4=1:=by kernel_rfl
 have hE:Tryz.prog.cellsOf 5=1:=by kernel_rfl
 obtain ⟨xs,n,_,_,_,hlen,hfs⟩:=DataW.trod_struct Tryz.underlying33 h
 have hl5:xs.length=5:=hlen
 obtain ⟨a0,rfl,w0⟩:=fld_int (ty:=22) (o:=0) (v:=c0) (hfs 0 _ rfl) (by omega) hU Tryz.underlying22 rfl
 obtain ⟨a1,rfl,w1⟩:=fld_int (ty:=22) (o:=1) (v:=c1) (hfs 1 _ rfl) (by omega) hU Tryz.underlying22 rfl
 obtain ⟨a2,rfl,w2⟩:=fld_int (ty:=5) (o:=2) (v:=c2) (hfs 2 _ rfl) (by omega) hE Tryz.underlying5 rfl
 obtain ⟨b3,rfl⟩:=fld_bool (ty:=4) (o:=3) (v:=c3) (hfs 3 _ rfl) (by omega) hB Tryz.underlying4 rfl
 obtain ⟨a4,rfl,w4⟩:=fld_int (ty:=22) (o:=4) (v:=c4) (hfs 4 _ rfl) (by omega) hU Tryz.underlying22 rfl
 exact ⟨⟨a0,a1,a2,b3,a4⟩,rfl,bounds_u16 w0,bounds_u16 w1,bounds_u8 w2,bounds_u16 w4⟩
theorem list2 {s:List Value} (h:s.length=2):∃ c0 c1,s=[c0,c1]:=by
 match s,h with
 | [c0,c1],_=>exact ⟨c0,c1,rfl⟩
theorem list3 {s:List Value} (h:s.length=3):∃ c0 c1 c2,s=[c0,c1,c2]:=by
 match s,h with
 | [c0,c1,c2],_=>exact ⟨c0,c1,c2,rfl⟩
theorem list4 {s:List Value} (h:s.length=4):∃ c0 c1 c2 c3,s=[c0,c1,c2,c3]:=by
 match s,h with
 | [c0,c1,c2,c3],_=>exact ⟨c0,c1,c2,c3,rfl⟩
theorem list6 {s:List Value} (h:s.length=6):∃ c0 c1 c2 c3 c4 c5,s=[c0,c1,c2,c3,c4,c5]:=by
 match s,h with
 | [c0,c1,c2,c3,c4,c5],_=>exact ⟨c0,c1,c2,c3,c4,c5,rfl⟩
theorem list15 {s:List Value} (h:s.length=15):∃ c0 c1 c2 c3 c4 c5 c6 c7 c8 c9 c10 c11 c12 c13 c14,s=[c0,c1,c2,c3,c4,c5,c6,c7,c8,c9,c10,c11,c12,c13,c14]:=by
 match s,h with
 | [c0,c1,c2,c3,c4,c5,c6,c7,c8,c9,c10,c11,c12,c13,c14],_=>exact ⟨c0,c1,c2,c3,c4,c5,c6,c7,c8,c9,c10,c11,c12,c13,c14,rfl⟩
theorem list16 {s:List Value} (h:s.length=16):∃ c0 c1 c2 c3 c4 c5 c6 c7 c8 c9 c10 c11 c12 c13 c14 c15,s=[c0,c1,c2,c3,c4,c5,c6,c7,c8,c9,c10,c11,c12,c13,c14,c15]:=by
 match s,h with
 | [c0,c1,c2,c3,c4,c5,c6,c7,c8,c9,c10,c11,c12,c13,c14,c15],_=>exact ⟨c0,c1,c2,c3,c4,c5,c6,c7,c8,c9,c10,c11,c12,c13,c14,c15,rfl⟩
theorem opn_cpu {H:Type} {enc:TypeId × Value->H} {w:World} {base:Nat} {spare:Nat->Bool} {held:Bool} {n:Nat} {x:DataW H × List MemPlace} {s:List Value} (h:DataW.trod enc Tryz.prog w base spare held n 25 s=some x) (hs:s.length=15):∃ c:C.Cpu,s=cpuL c/\c.ok:=by
 have hU:Tryz.prog.cellsOf 22=1:=by kernel_rfl
 have hB:Tryz.prog.cellsOf 4=1:=by kernel_rfl
 have hE:Tryz.prog.cellsOf 5=1:=by kernel_rfl
 have hI:Tryz.prog.cellsOf 3=1:=by kernel_rfl
 have hR:Tryz.prog.cellsOf 23=8:=by kernel_rfl
 obtain ⟨c0,c1,c2,c3,c4,c5,c6,c7,c8,c9,c10,c11,c12,c13,c14,rfl⟩:=list15 hs
 obtain ⟨xs,m,_,_,_,hlen,hfs⟩:=DataW.trod_struct Tryz.underlying25 h
 have hl8:xs.length=8:=hlen
 have g0:DataW.trod enc Tryz.prog w base spare held m 23 (([c0,c1,c2,c3,c4,c5,c6,c7,c8,c9,c10,c11,c12,c13,c14].drop 0).take (Tryz.prog.cellsOf 23))=xs[0]?:=hfs 0 _ rfl
 rw [List.getElem?_eq_getElem (by omega)] at g0
 obtain ⟨ys,k,_,_,_,hyl,hys⟩:=DataW.trod_array Tryz.underlying23 g0
 obtain ⟨a0,rfl,w0⟩:=fld_int (o:=0 * Tryz.prog.cellsOf 22) (v:=c0) (hys 0 (by omega)) (by omega) hU Tryz.underlying22 (by rw [hU,hR];rfl)
 obtain ⟨a1,rfl,w1⟩:=fld_int (o:=1 * Tryz.prog.cellsOf 22) (v:=c1) (hys 1 (by omega)) (by omega) hU Tryz.underlying22 (by rw [hU,hR];rfl)
 obtain ⟨a2,rfl,w2⟩:=fld_int (o:=2 * Tryz.prog.cellsOf 22) (v:=c2) (hys 2 (by omega)) (by omega) hU Tryz.underlying22 (by rw [hU,hR];rfl)
 obtain ⟨a3,rfl,w3⟩:=fld_int (o:=3 * Tryz.prog.cellsOf 22) (v:=c3) (hys 3 (by omega)) (by omega) hU Tryz.underlying22 (by rw [hU,hR];rfl)
 obtain ⟨a4,rfl,w4⟩:=fld_int (o:=4 * Tryz.prog.cellsOf 22) (v:=c4) (hys 4 (by omega)) (by omega) hU Tryz.underlying22 (by rw [hU,hR];rfl)
 obtain ⟨a5,rfl,w5⟩:=fld_int (o:=5 * Tryz.prog.cellsOf 22) (v:=c5) (hys 5 (by omega)) (by omega) hU Tryz.underlying22 (by rw [hU,hR];rfl)
 obtain ⟨a6,rfl,w6⟩:=fld_int (o:=6 * Tryz.prog.cellsOf 22) (v:=c6) (hys 6 (by omega)) (by omega) hU Tryz.underlying22 (by rw [hU,hR];rfl)
 obtain ⟨a7,rfl,w7⟩:=fld_int (o:=7 * Tryz.prog.cellsOf 22) (v:=c7) (hys 7 (by omega)) (by omega) hU Tryz.underlying22 (by rw [hU,hR];rfl)
 obtain ⟨a8,rfl,wa8⟩:=fld_int (ty:=22) (o:=8) (v:=c8) (hfs 1 _ rfl) (by omega) hU Tryz.underlying22 rfl
 obtain ⟨b0,rfl⟩:=fld_bool (ty:=4) (o:=9) (v:=c9) (hfs 2 _ rfl) (by omega) hB Tryz.underlying4 rfl
 obtain ⟨b1,rfl⟩:=fld_bool (ty:=4) (o:=10) (v:=c10) (hfs 3 _ rfl) (by omega) hB Tryz.underlying4 rfl
 obtain ⟨b2,rfl⟩:=fld_bool (ty:=4) (o:=11) (v:=c11) (hfs 4 _ rfl) (by omega) hB Tryz.underlying4 rfl
 obtain ⟨b3,rfl⟩:=fld_bool (ty:=4) (o:=12) (v:=c12) (hfs 5 _ rfl) (by omega) hB Tryz.underlying4 rfl
 obtain ⟨b4,rfl⟩:=fld_bool (ty:=4) (o:=13) (v:=c13) (hfs 6 _ rfl) (by omega) hB Tryz.underlying4 rfl
 obtain ⟨b5,rfl⟩:=fld_bool (ty:=4) (o:=14) (v:=c14) (hfs 7 _ rfl) (by omega) hB Tryz.underlying4 rfl
 refine ⟨⟨[a0,a1,a2,a3,a4,a5,a6,a7],a8,b0,b1,b2,b3,b4,b5⟩,rfl,rfl,fun z hz=>?_,(bounds_u16 wa8).1,(bounds_u16 wa8).2⟩
 simp only [List.mem_cons,List.not_mem_nil,or_false] at hz
 rcases hz with rfl | rfl | rfl | rfl | rfl | rfl | rfl | rfl
 ·exact bounds_u16 w0
 ·exact bounds_u16 w1
 ·exact bounds_u16 w2
 ·exact bounds_u16 w3
 ·exact bounds_u16 w4
 ·exact bounds_u16 w5
 ·exact bounds_u16 w6
 ·exact bounds_u16 w7
theorem opn_pad {H:Type} {enc:TypeId × Value->H} {w:World} {base:Nat} {spare:Nat->Bool} {held:Bool} {n:Nat} {x:DataW H × List MemPlace} {s:List Value} (h:DataW.trod enc Tryz.prog w base spare held n 28 s=some x) (hs:s.length=3):∃ p:Pd,s=[.int .u8 p.d,.bool p.l,.int .u8 p.s]/\p.ok:=by
 have hU:Tryz.prog.cellsOf 22=1:=by kernel_rfl
 have hB:Tryz.prog.cellsOf 4=1:=by kernel_rfl
 have hE:Tryz.prog.cellsOf 5=1:=by kernel_rfl
 have hI:Tryz.prog.cellsOf 3=1:=by kernel_rfl
 obtain ⟨c0,c1,c2,rfl⟩:=list3 hs
 obtain ⟨xs,m,_,_,_,hlen,hfs⟩:=DataW.trod_struct Tryz.underlying28 h
 have hl:xs.length=3:=hlen
 obtain ⟨a0,rfl,wa0⟩:=fld_int (ty:=5) (o:=0) (v:=c0) (hfs 0 _ rfl) (by omega) hE Tryz.underlying5 rfl
 obtain ⟨b1,rfl⟩:=fld_bool (ty:=4) (o:=1) (v:=c1) (hfs 1 _ rfl) (by omega) hB Tryz.underlying4 rfl
 obtain ⟨a2,rfl,wa2⟩:=fld_int (ty:=5) (o:=2) (v:=c2) (hfs 2 _ rfl) (by omega) hE Tryz.underlying5 rfl
 exact ⟨⟨a0,b1,a2⟩,rfl,bounds_u8 wa0,bounds_u8 wa2⟩
theorem opn_pads {H:Type} {enc:TypeId × Value->H} {w:World} {base:Nat} {spare:Nat->Bool} {held:Bool} {n:Nat} {x:DataW H × List MemPlace} {s:List Value} (h:DataW.trod enc Tryz.prog w base spare held n 29 s=some x) (hs:s.length=6):∃ p q:Pd,s=[.int .u8 p.d,.bool p.l,.int .u8 p.s,.int .u8 q.d,.bool q.l,.int .u8 q.s]/\p.ok/\q.ok:=by
 have hV:Tryz.prog.cellsOf 28=3:=by kernel_rfl
 obtain ⟨c0,c1,c2,c3,c4,c5,rfl⟩:=list6 hs
 obtain ⟨ys,m,_,_,_,hyl,hys⟩:=DataW.trod_array Tryz.underlying29 h
 have y0:=hys 0 (by omega)
 have y1:=hys 1 (by omega)
 rw [hV,List.getElem?_eq_getElem (by omega)] at y0 y1
 obtain ⟨p,ep,hp⟩:=opn_pad (s:=[c0,c1,c2]) y0 rfl
 obtain ⟨q,eq,hq⟩:=opn_pad (s:=[c3,c4,c5]) y1 rfl
 simp only [List.cons.injEq,and_true] at ep eq
 obtain ⟨rfl,rfl,rfl⟩:=ep
 obtain ⟨rfl,rfl,rfl⟩:=eq
 exact ⟨p,q,rfl,hp,hq⟩
theorem opn_timer {H:Type} {enc:TypeId × Value->H} {w:World} {base:Nat} {spare:Nat->Bool} {held:Bool} {n:Nat} {x:DataW H × List MemPlace} {s:List Value} (h:DataW.trod enc Tryz.prog w base spare held n 31 s=some x) (hs:s.length=4):∃ t:TM,s=[.int .u16 t.r,.int .u16 t.c,.bool t.on,.bool t.g]/\bd16 t.r/\bd16 t.c:=by
 have hU:Tryz.prog.cellsOf 22=1:=by kernel_rfl
 have hB:Tryz.prog.cellsOf 4=1:=by kernel_rfl
 have hE:Tryz.prog.cellsOf 5=1:=by kernel_rfl
 have hI:Tryz.prog.cellsOf 3=1:=by kernel_rfl
 obtain ⟨c0,c1,c2,c3,rfl⟩:=list4 hs
 obtain ⟨xs,m,_,_,_,hlen,hfs⟩:=DataW.trod_struct Tryz.underlying31 h
 have hl:xs.length=4:=hlen
 obtain ⟨a0,rfl,wa0⟩:=fld_int (ty:=22) (o:=0) (v:=c0) (hfs 0 _ rfl) (by omega) hU Tryz.underlying22 rfl
 obtain ⟨a1,rfl,wa1⟩:=fld_int (ty:=22) (o:=1) (v:=c1) (hfs 1 _ rfl) (by omega) hU Tryz.underlying22 rfl
 obtain ⟨b2,rfl⟩:=fld_bool (ty:=4) (o:=2) (v:=c2) (hfs 2 _ rfl) (by omega) hB Tryz.underlying4 rfl
 obtain ⟨b3,rfl⟩:=fld_bool (ty:=4) (o:=3) (v:=c3) (hfs 3 _ rfl) (by omega) hB Tryz.underlying4 rfl
 exact ⟨⟨a0,a1,b2,b3⟩,rfl,bounds_u16 wa0,bounds_u16 wa1⟩
theorem opn_beam {H:Type} {enc:TypeId × Value->H} {w:World} {base:Nat} {spare:Nat->Bool} {held:Bool} {n:Nat} {x:DataW H × List MemPlace} {s:List Value} (h:DataW.trod enc Tryz.prog w base spare held n 38 s=some x) (hs:s.length=4):∃ b:Bem,s=[.int .i64 b.l,.int .i64 b.a,.bool b.g,.int .i64 b.f]:=by
 have hU:Tryz.prog.cellsOf 22=1:=by kernel_rfl
 have hB:Tryz.prog.cellsOf 4=1:=by kernel_rfl
 have hE:Tryz.prog.cellsOf 5=1:=by kernel_rfl
 have hI:Tryz.prog.cellsOf 3=1:=by kernel_rfl
 obtain ⟨c0,c1,c2,c3,rfl⟩:=list4 hs
 obtain ⟨xs,m,_,_,_,hlen,hfs⟩:=DataW.trod_struct Tryz.underlying38 h
 have hl:xs.length=4:=hlen
 obtain ⟨a0,rfl,wa0⟩:=fld_int (ty:=3) (o:=0) (v:=c0) (hfs 0 _ rfl) (by omega) hI Tryz.underlying3 rfl
 obtain ⟨a1,rfl,wa1⟩:=fld_int (ty:=3) (o:=1) (v:=c1) (hfs 1 _ rfl) (by omega) hI Tryz.underlying3 rfl
 obtain ⟨b2,rfl⟩:=fld_bool (ty:=4) (o:=2) (v:=c2) (hfs 2 _ rfl) (by omega) hB Tryz.underlying4 rfl
 obtain ⟨a3,rfl,wa3⟩:=fld_int (ty:=3) (o:=3) (v:=c3) (hfs 3 _ rfl) (by omega) hI Tryz.underlying3 rfl
 exact ⟨⟨a0,a1,b2,a3⟩,rfl⟩
theorem opn_mail {H:Type} {enc:TypeId × Value->H} {w:World} {base:Nat} {spare:Nat->Bool} {held:Bool} {n:Nat} {x:DataW H × List MemPlace} {s:List Value} (h:DataW.trod enc Tryz.prog w base spare held n 39 s=some x) (hs:s.length=2):∃ a b:Int,s=[.int .u8 a,.int .u8 b]/\bd8 a/\bd8 b:=by
 have hU:Tryz.prog.cellsOf 22=1:=by kernel_rfl
 have hB:Tryz.prog.cellsOf 4=1:=by kernel_rfl
 have hE:Tryz.prog.cellsOf 5=1:=by kernel_rfl
 have hI:Tryz.prog.cellsOf 3=1:=by kernel_rfl
 obtain ⟨c0,c1,rfl⟩:=list2 hs
 obtain ⟨ys,k,_,_,_,hyl,hys⟩:=DataW.trod_array Tryz.underlying39 h
 obtain ⟨a0,rfl,w0⟩:=fld_int (o:=0 * Tryz.prog.cellsOf 5) (v:=c0) (hys 0 (by omega)) (by omega) hE Tryz.underlying5 (by rw [hE];rfl)
 obtain ⟨a1,rfl,w1⟩:=fld_int (o:=1 * Tryz.prog.cellsOf 5) (v:=c1) (hys 1 (by omega)) (by omega) hE Tryz.underlying5 (by rw [hE];rfl)
 exact ⟨a0,a1,rfl,bounds_u8 w0,bounds_u8 w1⟩
theorem opn_sound {H:Type} {enc:TypeId × Value->H} {w:World} {base:Nat} {spare:Nat->Bool} {held:Bool} {n:Nat} {x:DataW H × List MemPlace} {s:List Value} (h:DataW.trod enc Tryz.prog w base spare held n 36 s=some x) (hs:s.length=16):∃ d:Sd,s=sndL d/\d.ok:=by
 have hU:Tryz.prog.cellsOf 22=1:=by kernel_rfl
 have hB:Tryz.prog.cellsOf 4=1:=by kernel_rfl
 have hE:Tryz.prog.cellsOf 5=1:=by kernel_rfl
 have hI:Tryz.prog.cellsOf 3=1:=by kernel_rfl
 have hV:Tryz.prog.cellsOf 33=5:=by kernel_rfl
 have hR:Tryz.prog.cellsOf 34=15:=by kernel_rfl
 obtain ⟨c0,c1,c2,c3,c4,c5,c6,c7,c8,c9,c10,c11,c12,c13,c14,c15,rfl⟩:=list16 hs
 obtain ⟨xs,k,_,_,_,hlen,hfs⟩:=DataW.trod_struct Tryz.underlying36 h
 have hl2:xs.length=2:=hlen
 have g0:DataW.trod enc Tryz.prog w base spare held k 34 (([c0,c1,c2,c3,c4,c5,c6,c7,c8,c9,c10,c11,c12,c13,c14,c15].drop 0).take (Tryz.prog.cellsOf 34))=xs[0]?:=hfs 0 _ rfl
 rw [List.getElem?_eq_getElem (by omega),hR] at g0
 obtain ⟨ys,m,_,_,_,hyl,hys⟩:=DataW.trod_array under_three g0
 have y0:=hys 0 (by omega)
 have y1:=hys 1 (by omega)
 have y2:=hys 2 (by omega)
 rw [hV,List.getElem?_eq_getElem (by omega)] at y0 y1 y2
 obtain ⟨va,ea,ha⟩:=trod_voice (c0:=c0) (c1:=c1) (c2:=c2) (c3:=c3) (c4:=c4) y0
 obtain ⟨vb,eb,hb⟩:=trod_voice (c0:=c5) (c1:=c6) (c2:=c7) (c3:=c8) (c4:=c9) y1
 obtain ⟨vc,ec,hc⟩:=trod_voice (c0:=c10) (c1:=c11) (c2:=c12) (c3:=c13) (c4:=c14) y2
 obtain ⟨a15,rfl,w15⟩:=fld_int (ty:=3) (o:=15) (v:=c15) (hfs 1 _ rfl) (by omega) hI Tryz.underlying3 rfl
 simp only [List.cons.injEq,and_true] at ea eb ec
 obtain ⟨rfl,rfl,rfl,rfl,rfl⟩:=ea
 obtain ⟨rfl,rfl,rfl,rfl,rfl⟩:=eb
 obtain ⟨rfl,rfl,rfl,rfl,rfl⟩:=ec
 exact ⟨⟨va,vb,vc,a15⟩,rfl,⟨ha,hb,hc⟩⟩
theorem opn_bytes {H:Type} {enc:TypeId × Value->H} {W:World} {v:Value} {n:Nat} {x:DataW H × List MemPlace} (hf:DataW.trod enc Tryz.prog W 0 (fun _=>true) true n 26 [v]=some x):∃ l,sliceAt W v l/\l.length<=maxLen:=by
 have c1:Tryz.prog.cellsOf 5=1:=by kernel_rfl
 rcases open_ints Tryz.underlying26 Tryz.underlying5 c1 hf with ⟨hc,_⟩ | ⟨ad,len',cap',zs,hc,_,hl,hm,hz,_,hcell,hwf⟩
 ·have e:v = .slice none 0 0:=by simpa using hc
  rw [e]
  exact ⟨[],Or.inl ⟨none,0,rfl,rfl⟩,by simp⟩
 ·have e:v = .slice (some ad) len' cap':=by simpa using hc
  rw [e]
  simp only [if_true] at hz
  by_cases h0:len'=0
  ·subst h0
   exact ⟨[],Or.inl ⟨some ad,cap',rfl,rfl⟩,by simp⟩
  ·have hs:=Pl.spot (hcell 0 (by omega))
   obtain ⟨g,o,sp⟩:=ad
   have hs':sp=none:=by
    cases sp with
    | none=>rfl
    | some x=>simp [Addr.add] at hs
   subst hs'
   refine ⟨(zs.take len').map (fun z=>UInt8.ofNat z.toNat),Or.inr ⟨g,o,cap',by rw [List.length_map,List.length_take,Nat.min_eq_left (by omega)],by rw [List.length_map,List.length_take];omega,World.block_lt_of_cell? W _ (hcell 0 (by omega)),fun j c hj=>?_⟩,by rw [List.length_map,List.length_take];omega⟩
   rw [List.getElem?_map] at hj
   obtain ⟨z,hz1,hz2⟩:=Option.map_eq_some_iff.1 hj
   have hjl:j < len':=by
    have:=(List.getElem?_eq_some_iff.1 hz1).1
    rw [List.length_take] at this;omega
   rw [List.getElem?_take_of_lt hjl] at hz1
   have hzj:j < zs.length:=(List.getElem?_eq_some_iff.1 hz1).1
   have hw:=bounds_u8 (hwf z (List.mem_of_getElem? hz1))
   have:=hcell j hzj
   rw [addr_add,show zs.getD j 0=z by simp [List.getD,hz1]] at this
   rw [this,<- hz2]
   rw [show (UInt8.ofNat z.toNat).toNat=z.toNat by simp;omega,show ((z.toNat:Nat):Int)=z by omega]
theorem sub_some {H:Type} {enc:TypeId × Value->H} {P:Program} {w:World} {base:Nat} {spare:Nat->Bool} {held:Bool} {n i o k:Nat} {ty:TypeId} {cs:List Value} {xs:List (DataW H × List MemPlace)}
 (h:DataW.trod enc P w base spare held n ty ((cs.drop o).take (P.cellsOf ty))=xs[i]?) (hi:i < xs.length) (hc:P.cellsOf ty=k):∃ y,DataW.trod enc P w base spare held n ty ((cs.drop o).take k)=some y:=by
 rw [hc,List.getElem?_eq_getElem hi] at h
 exact ⟨_,h⟩
theorem chain_list {l R:List Value} {n k m:Nat} (hm:n+k=m) (h:l.drop m=R):l.drop n=(l.drop n).take k++R:=by
 subst hm
 rw [<- h,<- List.drop_drop]
 exact (List.take_append_drop k _).symm
theorem last_list {l:List Value} {n k:Nat} (h:l.length<=n+k):l.drop n=(l.drop n).take k:=(List.take_of_length_le (by rw [List.length_drop];omega)).symm
theorem get_list {cs:List Value} (o:Nat) (h:o < cs.length):∃ v,cs[o]? = some v/\(cs.drop o).take 1=[v]:=⟨cs[o],List.getElem?_eq_getElem h,by rw [List.take_one,List.head?_drop,List.getElem?_eq_getElem h];rfl⟩
theorem open_mach {H:Type} {enc:TypeId × Value->H} {W:World} {base:Nat} {v:Value} {d:DataW H} {p:List MemPlace} (hv:Value.okWide Tryz.prog W .any base 41 v) (h:DataW.Trod enc Tryz.prog W 0 (fun _=>true) true 41 v d p) :
 ∃ (M:Mach) (S:Sl),v = .agg (machL M S).toArray/\M.ok/\SlAt W S M /\ ∀ j,j < 5->(M.byt j).length<=maxLen:=by
 have hU:Tryz.prog.cellsOf 22=1:=by kernel_rfl
 have hB:Tryz.prog.cellsOf 4=1:=by kernel_rfl
 have hE:Tryz.prog.cellsOf 5=1:=by kernel_rfl
 have hI:Tryz.prog.cellsOf 3=1:=by kernel_rfl
 have hM:Tryz.prog.cellsOf 41=75:=by kernel_rfl
 obtain ⟨cs,rfl,hsz⟩:=okWide_struct Tryz.underlying41 hv
 obtain ⟨l⟩:=cs
 have hl:l.length=75:=hsz.trans hM
 obtain ⟨fuel,hf0⟩:=h
 have hf:DataW.trod enc Tryz.prog W 0 (fun _=>true) true fuel 41 l=some (d,p):=hf0
 obtain ⟨xs,m,_,_,_,hlen,hfs⟩:=DataW.trod_struct Tryz.underlying41 hf
 have hx:xs.length=20:=hlen
 obtain ⟨y0,g0⟩:=sub_some (ty:=25) (o:=0) (k:=15) (hfs 0 _ rfl) (by omega) (by kernel_rfl)
 obtain ⟨m0,e0,k0⟩:=opn_cpu g0 (by simp [hl])
 obtain ⟨y1,g1⟩:=sub_some (ty:=25) (o:=15) (k:=15) (hfs 1 _ rfl) (by omega) (by kernel_rfl)
 obtain ⟨m1,e1,k1⟩:=opn_cpu g1 (by simp [hl])
 obtain ⟨u2,r2,e2⟩:=get_list (cs:=l) 30 (by omega)
 obtain ⟨y2,g2⟩:=sub_some (ty:=26) (o:=30) (k:=1) (hfs 2 _ rfl) (by omega) (by kernel_rfl)
 rw [e2] at g2
 obtain ⟨m2,k2,q2⟩:=opn_bytes g2
 obtain ⟨u3,r3,e3⟩:=get_list (cs:=l) 31 (by omega)
 obtain ⟨y3,g3⟩:=sub_some (ty:=26) (o:=31) (k:=1) (hfs 3 _ rfl) (by omega) (by kernel_rfl)
 rw [e3] at g3
 obtain ⟨m3,k3,q3⟩:=opn_bytes g3
 obtain ⟨u4,r4,e4⟩:=get_list (cs:=l) 32 (by omega)
 obtain ⟨y4,g4⟩:=sub_some (ty:=26) (o:=32) (k:=1) (hfs 4 _ rfl) (by omega) (by kernel_rfl)
 rw [e4] at g4
 obtain ⟨m4,k4,q4⟩:=opn_bytes g4
 obtain ⟨u5,r5,e5⟩:=get_list (cs:=l) 33 (by omega)
 obtain ⟨y5,g5⟩:=sub_some (ty:=26) (o:=33) (k:=1) (hfs 5 _ rfl) (by omega) (by kernel_rfl)
 rw [e5] at g5
 obtain ⟨m5,k5,q5⟩:=opn_bytes g5
 obtain ⟨u6,r6,e6⟩:=get_list (cs:=l) 34 (by omega)
 obtain ⟨y6,g6⟩:=sub_some (ty:=26) (o:=34) (k:=1) (hfs 6 _ rfl) (by omega) (by kernel_rfl)
 rw [e6] at g6
 obtain ⟨m6,k6,q6⟩:=opn_bytes g6
 obtain ⟨y7,g7⟩:=sub_some (ty:=29) (o:=35) (k:=6) (hfs 7 _ rfl) (by omega) (by kernel_rfl)
 obtain ⟨m7,n7,e7,k7,q7⟩:=opn_pads g7 (by simp [hl])
 obtain ⟨y8,g8⟩:=sub_some (ty:=31) (o:=41) (k:=4) (hfs 8 _ rfl) (by omega) (by kernel_rfl)
 obtain ⟨m8,e8,k8,q8⟩:=opn_timer g8 (by simp [hl])
 obtain ⟨y9,g9⟩:=sub_some (ty:=36) (o:=45) (k:=16) (hfs 9 _ rfl) (by omega) (by kernel_rfl)
 obtain ⟨m9,e9,k9⟩:=opn_sound g9 (by simp [hl])
 obtain ⟨y10,g10⟩:=sub_some (ty:=38) (o:=61) (k:=4) (hfs 10 _ rfl) (by omega) (by kernel_rfl)
 obtain ⟨m10,e10⟩:=opn_beam g10 (by simp [hl])
 obtain ⟨u11,r11,e11⟩:=get_list (cs:=l) 65 (by omega)
 obtain ⟨m11,rfl,w11⟩:=fld_int (ty:=22) (o:=65) (hfs 11 _ rfl) (by omega) hU Tryz.underlying22 r11
 obtain ⟨u12,r12,e12⟩:=get_list (cs:=l) 66 (by omega)
 obtain ⟨m12,rfl,w12⟩:=fld_int (ty:=22) (o:=66) (hfs 12 _ rfl) (by omega) hU Tryz.underlying22 r12
 obtain ⟨u13,r13,e13⟩:=get_list (cs:=l) 67 (by omega)
 obtain ⟨m13,rfl⟩:=fld_bool (ty:=4) (o:=67) (hfs 13 _ rfl) (by omega) hB Tryz.underlying4 r13
 obtain ⟨u14,r14,e14⟩:=get_list (cs:=l) 68 (by omega)
 obtain ⟨m14,rfl⟩:=fld_bool (ty:=4) (o:=68) (hfs 14 _ rfl) (by omega) hB Tryz.underlying4 r14
 obtain ⟨y15,g15⟩:=sub_some (ty:=39) (o:=69) (k:=2) (hfs 15 _ rfl) (by omega) (by kernel_rfl)
 obtain ⟨m15,n15,e15,k15,q15⟩:=opn_mail g15 (by simp [hl])
 obtain ⟨u16,r16,e16⟩:=get_list (cs:=l) 71 (by omega)
 obtain ⟨m16,rfl⟩:=fld_bool (ty:=4) (o:=71) (hfs 16 _ rfl) (by omega) hB Tryz.underlying4 r16
 obtain ⟨u17,r17,e17⟩:=get_list (cs:=l) 72 (by omega)
 obtain ⟨m17,rfl,w17⟩:=fld_int (ty:=3) (o:=72) (hfs 17 _ rfl) (by omega) hI Tryz.underlying3 r17
 obtain ⟨u18,r18,e18⟩:=get_list (cs:=l) 73 (by omega)
 obtain ⟨m18,rfl,w18⟩:=fld_int (ty:=3) (o:=73) (hfs 18 _ rfl) (by omega) hI Tryz.underlying3 r18
 obtain ⟨u19,r19,e19⟩:=get_list (cs:=l) 74 (by omega)
 obtain ⟨m19,rfl,w19⟩:=fld_int (ty:=3) (o:=74) (hfs 19 _ rfl) (by omega) hI Tryz.underlying3 r19
 have hL:l=(l.drop 0).take 15++((l.drop 15).take 15++((l.drop 30).take 1++((l.drop 31).take 1++((l.drop 32).take 1++((l.drop 33).take 1++((l.drop 34).take 1++((l.drop 35).take 6++((l.drop 41).take 4++((l.drop 45).take 16++((l.drop 61).take 4++((l.drop 65).take 1++((l.drop 66).take 1++((l.drop 67).take 1++((l.drop 68).take 1++((l.drop 69).take 2++((l.drop 71).take 1++((l.drop 72).take 1++((l.drop 73).take 1++((l.drop 74).take 1))))))))))))))))))) :=
  List.drop_zero.symm.trans (chain_list (n:=0) (m:=15) rfl (chain_list (n:=15) (m:=30) rfl (chain_list (n:=30) (m:=31) rfl (chain_list (n:=31) (m:=32) rfl (chain_list (n:=32) (m:=33) rfl (chain_list (n:=33) (m:=34) rfl (chain_list (n:=34) (m:=35) rfl (chain_list (n:=35) (m:=41) rfl (chain_list (n:=41) (m:=45) rfl (chain_list (n:=45) (m:=61) rfl (chain_list (n:=61) (m:=65) rfl (chain_list (n:=65) (m:=66) rfl (chain_list (n:=66) (m:=67) rfl (chain_list (n:=67) (m:=68) rfl (chain_list (n:=68) (m:=69) rfl (chain_list (n:=69) (m:=71) rfl (chain_list (n:=71) (m:=72) rfl (chain_list (n:=72) (m:=73) rfl (chain_list (n:=73) (m:=74) rfl (last_list (by omega)))))))))))))))))))))
 rw [e0,e1,e2,e3,e4,e5,e6,e7,e8,e9,e10,e11,e12,e13,e14,e15,e16,e17,e18,e19] at hL
 refine ⟨⟨m0,m1,m2,m3,m4,m5,m6,m7,n7,m8,m9,m10,m11,m12,m13,m14,m15,n15,m16,m17,m18,m19⟩,⟨u2,u3,u4,u5,u6⟩,by rw [hL];rfl,⟨k0,k1,k7,q7,k8,q8,k9,bounds_u16 w11,bounds_u16 w12,k15,q15⟩,fun j hj=>?_,fun j hj=>?_⟩
 ·rcases five hj with rfl | rfl | rfl | rfl | rfl
  ·exact k2
  ·exact k3
  ·exact k4
  ·exact k5
  ·exact k6
 ·rcases five hj with rfl | rfl | rfl | rfl | rfl
  ·exact q2
  ·exact q3
  ·exact q4
  ·exact q5
  ·exact q6
instance : Inhabited Inp := ⟨⟨0, 0, 0⟩⟩
structure Inp.fits (x : Inp) : Prop where
 c:-9223372036854775808<=x.c/\x.c<=9223372036854775807
 p:-9223372036854775808<=x.p/\x.p<=9223372036854775807
 d:0<=x.d/\x.d<=255
theorem opn_inp {H:Type} {enc:TypeId × Value->H} {w:World} {base:Nat} {spare:Nat->Bool} {held:Bool} {n:Nat} {x:DataW H × List MemPlace} {s:List Value} (h:DataW.trod enc Tryz.prog w base spare held n 54 s=some x) (hs:s.length=3):∃ p:Inp,s=[.int .i64 p.c,.int .i64 p.p,.int .u8 p.d]/\p.fits:=by
 have hE:Tryz.prog.cellsOf 5=1:=by kernel_rfl
 have hI:Tryz.prog.cellsOf 3=1:=by kernel_rfl
 obtain ⟨c0,c1,c2,rfl⟩:=list3 hs
 obtain ⟨xs,m,_,_,_,hlen,hfs⟩:=DataW.trod_struct Tryz.underlying54 h
 have hl:xs.length=3:=hlen
 obtain ⟨a0,rfl,wa0⟩:=fld_int (ty:=3) (o:=0) (v:=c0) (hfs 0 _ rfl) (by omega) hI Tryz.underlying3 rfl
 obtain ⟨a1,rfl,wa1⟩:=fld_int (ty:=3) (o:=1) (v:=c1) (hfs 1 _ rfl) (by omega) hI Tryz.underlying3 rfl
 obtain ⟨a2,rfl,wa2⟩:=fld_int (ty:=5) (o:=2) (v:=c2) (hfs 2 _ rfl) (by omega) hE Tryz.underlying5 rfl
 exact ⟨⟨a0,a1,a2⟩,rfl,bounds_i64 wa0,bounds_i64 wa1,bounds_u8 wa2⟩
theorem open_inputs {H:Type} {enc:TypeId × Value->H} {W:World} {base:Nat} {v:Value} {d:DataW H} {p:List MemPlace} (hv:Value.okWide Tryz.prog W .any base 42 v) (hd:DataW.Trod enc Tryz.prog W 0 (fun _=>true) true 42 v d p) :
 ∃ l:List Inp,InpAt W.heap.size W v l/\l.length<=maxLen /\ ∀ x ∈ l,x.fits:=by
 obtain ⟨a,len,cap,rfl⟩:=okWide_slice Tryz.underlying42 hv
 obtain ⟨fuel,hf⟩:=hd
 have c3:Tryz.prog.cellsOf 54=3:=by kernel_rfl
 rcases Go.Deep.open_slice Tryz.underlying42 hf with ⟨hc,_⟩ | ⟨ad,len',cap',m,n,D,Pp,hc,_,hl,hm,hmm,_,hx⟩
 ·have e:(Value.slice a len cap) = .slice none 0 0:=by simpa [Value.cells] using hc
  rw [e]
  exact ⟨[],Or.inl ⟨rfl,none,0,rfl⟩,by simp,by simp⟩
 ·have e:(Value.slice a len cap) = .slice (some ad) len' cap':=by simpa [Value.cells] using hc
  rw [e]
  simp only [if_true] at hmm
  by_cases h0:len'=0
  ·subst h0
   exact ⟨[],Or.inl ⟨rfl,some ad,cap',rfl⟩,by simp,by simp⟩
  ·have hall:∀ i,i < len'->∃ q:Inp,(W.cell? (ad.add (i * 3))=some (.int .i64 q.c)/\W.cell? (ad.add (i * 3+1))=some (.int .i64 q.p)/\W.cell? (ad.add (i * 3+2))=some (.int .u8 q.d))/\q.fits:=fun i hi=>by
    obtain ⟨cs',h1,h2⟩:=hx i (by omega)
    rw [c3] at h1
    obtain ⟨_,hlen,hcell⟩:=World.cells?_some h1
    obtain ⟨q,rfl,hq⟩:=opn_inp h2 hlen
    have e0:=hcell 0 (by omega)
    have e1:=hcell 1 (by omega)
    have e2:=hcell 2 (by omega)
    rw [Go.Deep.add_add] at e0 e1 e2
    exact ⟨q,⟨by simpa using e0,by simpa using e1,by simpa using e2⟩,hq⟩
   obtain ⟨q,hq⟩:=Go.Deep.choose_lt hall
   have hs:=Pl.spot ((hq 0 (by omega)).1.1)
   obtain ⟨g,o,sp⟩:=ad
   have hs':sp=none:=by
    cases sp with
    | none=>rfl
    | some x=>simp [Addr.add] at hs
   subst hs'
   have hlt:g < W.heap.size:=World.block_lt_of_cell? W _ ((hq 0 (by omega)).1.1)
   refine ⟨(List.range len').map q,Or.inr ⟨g,o,cap',by rw [List.length_map,List.length_range],by rw [List.length_map,List.length_range];exact hl,hlt,hlt,fun j x hj=>?_⟩,by rw [List.length_map,List.length_range];omega,fun x hx=>?_⟩
   ·rw [List.getElem?_map] at hj
    obtain ⟨i,hi1,hi2⟩:=Option.map_eq_some_iff.1 hj
    obtain ⟨hjl,hi3⟩:=List.getElem?_eq_some_iff.1 hi1
    rw [List.length_range] at hjl
    rw [List.getElem_range] at hi3
    subst hi3
    subst hi2
    obtain ⟨⟨e0,e1,e2⟩,_⟩:=hq j hjl
    rw [addr_add] at e0 e1 e2
    rw [Nat.mul_comm 3 j]
    exact ⟨e0,e1,e2⟩
   ·obtain ⟨i,hi,rfl⟩:=List.mem_map.1 hx
    exact (hq i (List.mem_range.1 hi)).2
def incs:List Inp->List Value
 | []=>[]
 | x :: l=>.int .i64 x.c :: .int .i64 x.p :: .int .u8 x.d :: incs l
theorem incs_app:∀ l k:List Inp,incs (l++k)=incs l++incs k
 | [],k=>rfl
 | x :: l,k=>by simp only [incs,List.cons_append,incs_app l k]
theorem incs_at:∀ (l:List Inp) (j:Nat) (x:Inp),l[j]? = some x->(incs l)[3 * j]? = some (.int .i64 x.c)/\(incs l)[3 * j+1]? = some (.int .i64 x.p)/\(incs l)[3 * j+2]? = some (.int .u8 x.d)
 | [],j,x,h=>by simp at h
 | y :: l,0,x,h=>by
  simp only [List.getElem?_cons_zero,Option.some.injEq] at h
  subst h
  exact ⟨rfl,rfl,rfl⟩
 | y :: l,j+1,x,h=>by
  rw [List.getElem?_cons_succ] at h
  obtain ⟨h1,h2,h3⟩:=incs_at l j x h
  rw [show 3 * (j+1)=3 * j+1+1+1 by omega]
  exact ⟨h1,h2,h3⟩
theorem own_inp {w:World} {B:Nat} {v:Value} {l:List Inp} (h:w.ownsRow B 54 3 v l.length (incs l)):InpAt w.heap.size w v l:=by
 by_cases h0:l=[]
 ·subst h0
  obtain ⟨a,c,e⟩:=row_len2 h
  exact Or.inl ⟨rfl,a,c,e⟩
 ·have hl:0 < l.length:=by cases l with | nil=>exact absurd rfl h0 | cons _ _=>simp
  obtain ⟨g,cap,e,h1,h2,h3⟩:=row_cells h hl
  refine Or.inr ⟨g,0,cap,e,h1,h2,h2,fun j x hj=>?_⟩
  obtain ⟨q1,q2,q3⟩:=incs_at l j x hj
  rw [Nat.zero_add]
  exact ⟨h3 _ _ q1,h3 _ _ q2,h3 _ _ q3⟩
theorem info_inp:(Tryz.prog.info? 54).map (fun i=>(i.zero,i.size,i.bytes))=some (some (.agg #[.int .i64 0,.int .i64 0,.int .u8 0]),3,24):=by kernel_rfl
theorem run_binp (x:Inp) (w:World):(Instr.buildSlice 42 1 #[(0,.agg #[.int .i64 x.c,.int .i64 x.p,.int .u8 x.d])]).run Tryz.prog w = .ok (.slice (some ⟨w.heap.size,0,none⟩) 1 1) (w.alloc (.cells #[.int .i64 x.c,.int .i64 x.p,.int .u8 x.d] 54)):=by kernel_rfl
theorem new_inp (w:World) (x:Inp) (t:TypeId) {b:Nat} (hb:b=w.heap.size):RwAt (w.alloc (.cells #[.int .i64 x.c,.int .i64 x.p,.int .u8 x.d] t)) (.slice (some ⟨b,0,none⟩) 1 1) 1 3 (incs [x]):=by
 subst hb
 have h:=Bx.new w [.int .i64 x.c,.int .i64 x.p,.int .u8 x.d] t (b:=w.heap.size) rfl
 exact ⟨rfl,Or.inr ⟨w.heap.size,0,1,rfl,Nat.le_refl _,h.z,fun j u hj=>by rw [Nat.zero_add];exact h.at j u hj⟩⟩
theorem inp_one (x:Inp):∀ u ∈ incs [x],u.oneCell'=true:=fun u hu=>by
 simp only [incs,List.mem_cons,List.not_mem_nil,or_false] at hu
 rcases hu with rfl | rfl | rfl <;> rfl
/-! ### inputs that are right -/
theorem chkL_pair:∀ (l:List Inp) (a:Int),chkL l a=0->Inps l /\ ∀ x ∈ l,x.c<=400000
 | [],a,_=>⟨List.Pairwise.nil,fun x hx=>by cases hx⟩
 | y :: l,a,h=>by
  unfold chkL at h
  split at h
  ·cases h
  ·rename_i h1
   split at h
   ·obtain ⟨i1,i2⟩:=chkL_pair l y.c h
    exact ⟨List.pairwise_cons.2 ⟨fun x hx=>(chkL_ok l y.c h x hx).2,i1⟩,fun x hx=>by
     rcases List.mem_cons.1 hx with rfl | hx
     ·omega
     ·exact i2 x hx⟩
   ·cases h
theorem chkL_of:∀ (l:List Inp) (a:Int),Inps l->(∀ x ∈ l,a<=x.c/\x.c<=400000/\(x.p=0 \/ x.p=1))->chkL l a=0
 | [],a,_,_=>rfl
 | y :: l,a,hp,h=>by
  obtain ⟨h1,h2,h3⟩:=h y List.mem_cons_self
  have hp':=List.pairwise_cons.1 hp
  rw [chk0 (by omega) h3]
  exact chkL_of l y.c hp'.2 (fun x hx=>⟨hp'.1 x hx,(h x (List.mem_cons_of_mem _ hx)).2⟩)
theorem chkIn_inv {l:List Inp} {a:Int} (h:chkIn l a=0):l.length<=40/\chkL l a=0:=by
 unfold chkIn at h
 split at h
 ·cases h
 ·exact ⟨by omega,h⟩
theorem chk_rest {l:List Inp} {a c:Int} (h:chkIn l a=0) (hc:a<=c):chkIn (l.filter (fun x=>decide (c<=x.c))) c=0:=by
 obtain ⟨h1,h2⟩:=chkIn_inv h
 obtain ⟨h3,h4⟩:=chkL_pair l a h2
 unfold chkIn
 rw [if_neg (by have:=List.length_filter_le (fun x:Inp=>decide (c<=x.c)) l;omega)]
 refine chkL_of _ _ (List.Pairwise.filter _ h3) (fun x hx=>?_)
 obtain ⟨hx1,hx2⟩:=List.mem_filter.1 hx
 exact ⟨by simpa using hx2,h4 x hx1,(chkL_ok l a h2 x hx1).1⟩
def rest (l:List Inp) (c:Int) (j:Nat):List Inp:=(l.take j).filter (fun x=>decide (c<=x.c))
theorem rest_succ {l:List Inp} {c:Int} {j:Nat} {x:Inp} (h:l[j]? = some x):rest l c (j+1)=rest l c j++(if c<=x.c then [x] else []):=by
 unfold rest
 rw [List.take_add_one,h,List.filter_append]
 congr 1
 by_cases hc:c<=x.c
 ·simp [hc]
 ·simp [hc]
theorem rest_len (l:List Inp) (c:Int) (j:Nat):(rest l c j).length<=l.length:=by
 unfold rest
 have h1:=List.length_filter_le (fun x:Inp=>decide (c<=x.c)) (l.take j)
 rw [List.length_take] at h1
 omega
/-! ### what lies where -/
structure PA (w : World) (M : Mach) (S : Sl) (v : Value) (l : List Inp) (w5 : World) (X : Mach) (SX : Sl) (p1 p2 p3 : Value) (k : Cs) (Y : World) : Prop where
 low:Below w.heap.size w Y
 m:Bx Y w.heap.size (machL M S)
 sm:SlAt Y S M
 inp:InpAt Y.heap.size Y v l
 r:R3 w5 X SX [p1,p2,p3] Y
 sx:SlAt Y SX X
 sh:ShAt Y p1 p2 p3 k.ln k.sm k.s.l
theorem PA.kept {w:World} {M:Mach} {S:Sl} {v:Value} {l:List Inp} {w5:World} {X:Mach} {SX:Sl} {p1 p2 p3:Value} {k:Cs} {Y Y':World} (h:PA w M S v l w5 X SX p1 p2 p3 k Y) (hb:Below Y.heap.size Y Y'):PA w M S v l w5 X SX p1 p2 p3 k Y' :=
 ⟨stp h.low hb,h.m.kept hb,h.sm.kept hb,(h.inp.kept hb).mono hb.size,h.r.kept hb,h.sx.kept hb,h.sh.kept hb⟩
theorem told_sh {F:Fx} {N:Nat} {k:Cs} {vln vsm vw:Value} {w:World} (h:Told F N k vln vsm vw w):ShAt w vln vsm vw k.ln k.sm k.s.l:=⟨row_own h.ln,slice_of_own h.sm,row_own h.ws⟩
/-! ### a frame over one letter -/
theorem arr_lit {n:Nat} (t:Array Value) (h:t.size=n):t=((List.range n).map (fun i=>t.getD i undef)).toArray:=by
 apply Array.ext
 ·simp [h]
 ·intro i h1 h2
  simp [Array.getD,h1]
theorem act_open141 (a:Act) (hs:a.tmps.size=141) (hd:a.defers=[]):∃ f:Nat->Value,(∀ i,sv a i=f i)/\a={ tmps:=List.toArray (f 0 :: f 1 :: f 2 :: f 3 :: f 4 :: f 5 :: f 6 :: f 7 :: f 8 :: f 9 :: f 10 :: f 11 :: f 12 :: f 13 :: f 14 :: f 15 :: f 16 :: f 17 :: f 18 :: f 19 :: f 20 :: f 21 :: f 22 :: f 23 :: f 24 :: f 25 :: f 26 :: f 27 :: f 28 :: f 29 :: f 30 :: f 31 :: f 32 :: f 33 :: f 34 :: f 35 :: f 36 :: f 37 :: f 38 :: f 39 :: f 40 :: f 41 :: f 42 :: f 43 :: f 44 :: f 45 :: f 46 :: f 47 :: f 48 :: f 49 :: f 50 :: f 51 :: f 52 :: f 53 :: f 54 :: f 55 :: f 56 :: f 57 :: f 58 :: f 59 :: f 60 :: f 61 :: f 62 :: f 63 :: f 64 :: f 65 :: f 66 :: f 67 :: f 68 :: f 69 :: f 70 :: f 71 :: f 72 :: f 73 :: f 74 :: f 75 :: f 76 :: f 77 :: f 78 :: f 79 :: f 80 :: f 81 :: f 82 :: f 83 :: f 84 :: f 85 :: f 86 :: f 87 :: f 88 :: f 89 :: f 90 :: f 91 :: f 92 :: f 93 :: f 94 :: f 95 :: f 96 :: f 97 :: f 98 :: f 99 :: f 100 :: f 101 :: f 102 :: f 103 :: f 104 :: f 105 :: f 106 :: f 107 :: f 108 :: f 109 :: f 110 :: f 111 :: f 112 :: f 113 :: f 114 :: f 115 :: f 116 :: f 117 :: f 118 :: f 119 :: f 120 :: f 121 :: f 122 :: f 123 :: f 124 :: f 125 :: f 126 :: f 127 :: f 128 :: f 129 :: f 130 :: f 131 :: f 132 :: f 133 :: f 134 :: f 135 :: f 136 :: f 137 :: f 138 :: f 139 :: f 140 :: []),defers:=[] }:=by
 refine ⟨sv a,fun _=>rfl,?_⟩
 obtain ⟨t,d⟩:=a
 simp only at hs hd
 subst hd
 have:=arr_lit t hs
 exact congrArg (fun t=>({ tmps:=t,defers:=[] }:Act)) (this.trans (by rfl))
structure Two (M : Mach) (l : List Inp) (a b : Nat) (k k2 k3 : Cs) : Prop where
 e1:k=Cs.clocks ⟨⟨M,0,[]⟩,l,[],[]⟩ a
 e2:k2=Cs.clocks ⟨⟨k.s.M,0,[]⟩,rest l (M.clock+a) l.length,[],[]⟩ b
 e3:k3=Cs.clocks ⟨⟨M,0,[]⟩,l,[],[]⟩ (a+b)
 fit2:k.s.M.b.f<=20000
 clock:k.s.M.clock=M.clock+a
 M3:k3.s.M=k2.s.M
 ln:k3.ln=k.ln++k2.ln
 sm:k3.sm=k.sm++k2.sm
 ws:k3.s.l=k.s.l++k2.s.l
 z1:k.ln.length<=a/\k2.ln.length<=b
 z2:k.sm.length<=a/\k2.sm.length<=b
 z3:k.s.l.length<=4 * a/\k2.s.l.length<=4 * b
theorem rest_all (l:List Inp) (c:Int):rest l c l.length=l.filter (fun x=>decide (c<=x.c)):=by
 unfold rest
 rw [List.take_length]
theorem stepAux_len (s:Bst) (h:s.l.length<=1000000):s.stepAux.l.length<=s.l.length+4:=by
 unfold Bst.stepAux
 split
 ·omega
 ·have hf:=C.fuel_step (m:=auxMem) (fun s a=>Nat.le_refl _) (fun s a b=>by
   have:=shA_len s.M a (b % 256)
   show 1000000001 - s.l.length<=1000000001 - (s.l++s.M.shA a (b % 256)).length+1
   rw [List.length_append]
   omega) s.M.aux s s.M.rung
  have hf':1000000001 - s.l.length<=1000000001 - (C.step auxMem s.M.aux s s.M.rung).s.l.length+4:=hf
  show (C.step auxMem s.M.aux s s.M.rung).s.l.length<=_
  omega
theorem clocks_len (k0:Cs) (h0:k0.ln=[]/\k0.sm=[]/\k0.s.l=[]):∀ j:Nat,j<=20000->(k0.clocks j).ln.length<=j/\(k0.clocks j).sm.length<=j/\(k0.clocks j).s.l.length<=4 * j
 | 0,_=>⟨by show k0.ln.length<=0;rw [h0.1];simp,by show k0.sm.length<=0;rw [h0.2.1];simp,by show k0.s.l.length<=4 * 0;rw [h0.2.2];simp⟩
 | j+1,hj=>by
  obtain ⟨i1,i2,i3⟩:=clocks_len k0 h0 j (by omega)
  obtain ⟨k,hk⟩:∃ k,k=k0.clocks j:=⟨_,rfl⟩
  have e:k0.clocks (j+1)=k.clock:=by rw [hk];rfl
  rw [<- hk] at i1 i2 i3
  rw [e]
  refine ⟨?_,?_,?_⟩
  ·show (k.ln++(k.s.M.pressed k.co).line).length<=_
   have:=line_le (k.s.M.pressed k.co)
   rw [List.length_append];omega
  ·show (k.sm++(k.s.M.pressed k.co).sample).length<=_
   have:=sample_le (k.s.M.pressed k.co)
   rw [List.length_append];omega
  ·show ((Bst.stepMain ⟨k.s.M.pressed k.co,k.s.n,k.s.l⟩).stepAux).l.length<=_
   have h1:(Bst.stepMain ⟨k.s.M.pressed k.co,k.s.n,k.s.l⟩).l=k.s.l:=stepMain_l _
   have h2:=stepAux_len (Bst.stepMain ⟨k.s.M.pressed k.co,k.s.n,k.s.l⟩) (by rw [h1];omega)
   rw [h1] at h2
   omega
theorem two_of (M:Mach) (l:List Inp) (a b:Nat) (hf:M.fit) (h19:M.b.f<=19000) (hc:chkIn l M.clock=0) (hab:a+b<=20000):∃ k k2 k3,Two M l a b k k2 k3:=by
 obtain ⟨h40,hl⟩:=chkIn_inv hc
 obtain ⟨hp,_⟩:=chkL_pair l _ hl
 have hge:∀ x ∈ l,M.clock<=x.c:=fun x hx=>(chkL_ok l _ hl x hx).2
 have hlk:=two_parts M l hp hge a b
 have hrn:=clocks_runs ⟨⟨M,0,[]⟩,l,[],[]⟩ ⟨hf.b.l0,hf.b.l1,hf.b.a0,hf.b.a1,hf.b.f0,by show M.b.f<=20000;omega⟩ h19 a (by omega)
 have hcl:=(coming_after ⟨⟨M,0,[]⟩,l,[],[]⟩ l rfl hp hge a).1
 have h1:=clocks_len ⟨⟨M,0,[]⟩,l,[],[]⟩ ⟨rfl,rfl,rfl⟩ a (by omega)
 have h2:=clocks_len ⟨⟨(Cs.clocks ⟨⟨M,0,[]⟩,l,[],[]⟩ a).s.M,0,[]⟩,l.filter (fun x=>decide (M.clock+a<=x.c)),[],[]⟩ ⟨rfl,rfl,rfl⟩ b (by omega)
 have hb:=hf.b
 refine ⟨_,_,_,⟨rfl,rfl,rfl,?_,hcl,?_,?_,?_,?_,?_,?_,?_⟩⟩
 ·rw [hrn.f]
  show bmF M.b.l M.b.a M.b.f a<=20000
  have:=hb.l0;have:=hb.l1;have:=hb.a0;have:=hb.a1
  unfold bmF
  omega
 ·rw [rest_all];exact hlk.s.M
 ·rw [rest_all];exact hlk.ln
 ·rw [rest_all];exact hlk.sm
 ·rw [rest_all];exact hlk.s.l
 ·rw [rest_all];exact ⟨h1.1,h2.1⟩
 ·rw [rest_all];exact ⟨h1.2.1,h2.2.1⟩
 ·rw [rest_all];exact ⟨h1.2.2,h2.2.2⟩
end Go.Proofs.YtbhpfkjfijdmaaaGreatDoor
