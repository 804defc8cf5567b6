/-
  Parts of a proof, joined.
-/
import Derived.Test.YtbennamieealbaaGreatDoorZg17
import Derived.Test.YtbennamieealbaaGreatDoorZg02
import Derived.Test.YtbennamieealbaaGreatDoorZg12
import Derived.Test.YtbennamieealbaaGreatDoorZg07
set_option linter.unusedVariables false
set_option maxRecDepth 100000
set_option maxHeartbeats 3200000
namespace Go.Proofs.YtbennamieealbaaGreatDoor
open Go.ChangeShapes Go.WideShapes Go.ChangeAt Go.RowKit
def SlAt (W:World) (S:Sl) (M:Mach):Prop:=∀ j,j<5->sliceAt W (S.get j) (M.byt j)
theorem SlAt.kept {W W':World} {S:Sl} {M:Mach} (h:SlAt W S M) (hb:Below W.heap.size W W'):SlAt W' S M:=λj hj=>(h j hj).kept hb
theorem SlAt.lens {W:World} {S:Sl} {M:Mach} (h:SlAt W S M):S.lens M:=λj hj=>zaF (h j hj)
theorem Bd.slAt {F:Fx} {W:World} {M:Mach} {tk:Tk} (h:Bd F W M tk):SlAt W F.S M:=λj hj=>by
 rcases five hj with rfl|rfl|rfl|rfl|rfl
 ·exact h.mr.slice
 ·exact h.ar.slice
 ·exact h.ra.slice
 ·exact h.ow.slice
 ·exact h.vi.slice
theorem Bd.isSl {F:Fx} {W:World} {M:Mach} {tk:Tk} (h:Bd F W M tk):F.S.isSl:=λj hj=>by
 obtain ⟨a,c,e⟩:=h.slAt.lens j hj
 exact ⟨_,_,_,e⟩
theorem Bd.row {F:Fx} {W:World} {M:Mach} {tk:Tk} (h:Bd F W M tk):W.rangeAt F.g 0 (machL M F.S):=λi v hi=>by
 refine h.at (0+i) v ?_
 rw [Nat.zero_add]
 unfold Fx.cells
 rw [List.getElem?_append_left (List.getElem?_eq_some_iff.1 hi).1]
 exact hi
def took (aux:Bool) (a n:Int):Int:=if aux then 0 else tookM a n
def SlNew (n:Nat) (S:Sl):Prop:=∀ j,j<5->∀ a m c,S.get j = .slice (some a) m c->n<=a.block
theorem Rw.ge {W:World} {v:Value} {k n:Nat} {l:List UInt8} (h:Rw W v k l) (hk:n<=k):∀ (a:Addr) (m c:Nat),v = .slice (Option.some a) m c->n<=a.block:=λa m c e=>by
 rcases h with ⟨e1,_⟩|⟨cap,e1,_⟩
 ·rw [e1] at e;cases e
 ·rw [e1] at e;cases e;exact hk
theorem Bd.slNew {F:Fx} {W:World} {M:Mach} {tk:Tk} (h:Bd F W M tk) (hr:F.B<=F.mr/\F.B<=F.ar):SlNew F.B F.S:=λj hj=>by
 rcases five hj with rfl|rfl|rfl|rfl|rfl
 ·exact h.mr.ge hr.1
 ·exact h.ar.ge hr.2
 ·exact h.ra.ge h.nd.lo.2.1
 ·exact h.ow.ge h.nd.lo.2.2.1
 ·exact h.vi.ge h.nd.lo.2.2.2
theorem SlNew.mono {n m:Nat} {S:Sl} (h:SlNew n S) (hm:m<=n):SlNew m S:=λj hj a k c e=>Nat.le_trans hm (h j hj a k c e)
theorem SlAt.off {W:World} {S:Sl} {M:Mach} {n b:Nat} (h:SlAt W S M) (hn:SlNew n S) (hb:b<n) (o:Nat) (vs:List Value):SlAt (W.setCells b o vs) S M:=λj hj=>by
 rcases h j hj with h0|⟨g,o',cap,e1,e2,e3,e4⟩
 ·exact Or.inl h0
 ·have hg:n<=g:=hn j hj _ _ _ e1
  exact Or.inr ⟨g,o',cap,e1,e2,by rw [zaT];exact e3,λi c hi=>(World.cell?_of_block (zag (x:=g) (b:=b) (by omega) vs o W)).trans (e4 i c hi)⟩
structure RB (w : World) (F : Fx) (M : Mach) (tk : Tk) (L : List Value) (Y : World) : Prop where
 bd:Bd F Y M tk
 low:Below w.heap.size w Y
 res:Bx Y (w.heap.size+1) L
 B:w.heap.size+1<F.B
 r:F.B<=F.mr/\F.B<=F.ar
theorem RB.go {w Y Y':World} {F:Fx} {M M':Mach} {tk tk':Tk} {L:List Value} (h:RB w F M tk L Y) (hB:Bd F Y' M' tk') (ht:Bt F Y Y'):RB w F M' tk' L Y':=by
 have hb:=h.B
 exact ⟨hB,h.low.trans ((Mv.below ht).mono (by omega)),h.res.under (Mv.below ht) hb,hb,h.r⟩
theorem RB.kept {w Y Y':World} {F:Fx} {M:Mach} {tk:Tk} {L:List Value} (h:RB w F M tk L Y) (hb:Below Y.heap.size Y Y'):RB w F M tk L Y':=h.go (h.bd.kept hb) (Mv.of_below h.bd.big hb)
theorem RB.drew {w Y:World} {F:Fx} {M:Mach} {tk:Tk} {L:List Value} (h:RB w F M tk L Y):RB w F M tk L Y.drew:=h.kept (st0 Y).drew
theorem Rw.offB {W:World} {v:Value} {k b:Nat} {l:List UInt8} (h:Rw W v k l) (hn:b≠k) (o:Nat) (vs:List Value):Rw (W.setCells b o vs) v k l:=by
 rcases h with h|⟨cap,e,hl,hx⟩
 ·exact Or.inl h
 ·exact Or.inr ⟨cap,e,hl,hx.fars hn o vs⟩
theorem RB.fin {w Y:World} {F:Fx} {M:Mach} {tk:Tk} {L L':List Value} (h:RB w F M tk L Y) (hl:L'.length=L.length):Below w.heap.size w (Y.setCells (w.heap.size+1) 0 L')/\Bx (Y.setCells (w.heap.size+1) 0 L') (w.heap.size+1) L'/\SlAt (Y.setCells (w.heap.size+1) 0 L') F.S M:=by
 have hx:=h.res.puts 0 L' (by omega)
 rw [zau _ _ hl] at hx
 have lo:=h.bd.nd.lo
 have hB:=h.B
 have hr:=h.r
 refine ⟨Bl.puts h.low (by omega) _,hx,λj hj=>?_⟩
 rcases five hj with rfl|rfl|rfl|rfl|rfl
 ·exact (h.bd.mr.offB (by omega) _ _).slice
 ·exact (h.bd.ar.offB (by omega) _ _).slice
 ·exact (h.bd.ra.offB (by omega) _ _).slice
 ·exact (h.bd.ow.offB (by omega) _ _).slice
 ·exact (h.bd.vi.offB (by omega) _ _).slice
theorem zk9 (r c:Int) (on g:Bool) (w:World) :
 Calls Tryz.prog 251 #[.agg #[.int .u16 r,.int .u16 c,.bool on,.bool g]] w λe w'=>e = .returned (.agg #[.int .u16 r,.int .u16 r,.bool on,.bool g])/\Below w.heap.size w w':=by
 go_enter Tryz.func251,Tryz.ntmps251
 go_wp2
 refine bodyPost_ret (v:=.agg _) (by simp [results,Tryz.results251,go_sem];try rfl) rfl ⟨rfl,?_⟩
 exact (stA (stA (st0 _) _) _)
theorem zfL (n:Int) (w:World) :
 Calls Tryz.prog 189 #[.int .i64 n] w λe w'=>e = .returned (.func (.func 224) #[] #[.pointer (some ⟨w.heap.size,0,none⟩)])/\w'=w.alloc (.cells #[.int .i64 n] 3):=by
 go_enter Tryz.func189,Tryz.ntmps189
 go_wp2
 go_ret
 exact ⟨rfl,rfl⟩
theorem ziN (r c:Int) (g:Bool) (w:World) (hc:0<=c/\c<=65535) :
 Calls Tryz.prog 188 #[.agg #[.int .u16 r,.int .u16 c,.bool true,.bool g]] w λe w'=>e = .returned (.int .i64 (c+1))/\Below w.heap.size w w':=zeh r c true g w hc
theorem zoy (r c n:Int) (g:Bool) (h:n<c+1):rnC r c true n=c-n/\rnG c true g n=g:=by unfold rnC rnG;simp [h]
theorem zm5 (r c n:Int) (g:Bool) (h:¬ n<c+1):rnC r c true n=r-(n-(c+1))%(r+1)/\rnG c true g n=true:=by unfold rnC rnG;simp [h]
theorem box4 {w w1:World} {r c:Int} {on g:Bool} {o:Obj} (hb1:Below ((w.alloc (.cells #[.int .u16 r,.int .u16 c,.bool on,.bool g] 31)).alloc o).heap.size ((w.alloc (.cells #[.int .u16 r,.int .u16 c,.bool on,.bool g] 31)).alloc o) w1) :
 w1.cell? ⟨w.heap.size,0,none⟩=some (.int .u16 r)/\w1.cell? ⟨w.heap.size,1,none⟩=some (.int .u16 c)/\w1.cell? ⟨w.heap.size,2,none⟩=some (.bool on)/\w1.cell? ⟨w.heap.size,3,none⟩=some (.bool g):=by
 have h:∀ j,w1.cell? ⟨w.heap.size,j,none⟩=#[Value.int .u16 r,.int .u16 c,.bool on,.bool g][j]?:=λj=>by
  rw [hb1.cell (p:=⟨w.heap.size,j,none⟩) (by simp;omega)]
  exact (World.cell?_alloc_lt _ _ ⟨w.heap.size,j,none⟩ (by simp)).trans (Pl.new _ _ _ _ rfl)
 exact ⟨h 0,h 1,h 2,h 3⟩
theorem box4r {w w1:World} {o:Obj} (hb1:Below ((w.alloc o).alloc (.cells #[.int .u16 0,.int .u16 0,.bool false,.bool false] 31)).heap.size ((w.alloc o).alloc (.cells #[.int .u16 0,.int .u16 0,.bool false,.bool false] 31)) w1) :
 w1.cell? ⟨w.heap.size+1,0,none⟩=some (.int .u16 0)/\w1.cell? ⟨w.heap.size+1,1,none⟩=some (.int .u16 0)/\w1.cell? ⟨w.heap.size+1,2,none⟩=some (.bool false)/\w1.cell? ⟨w.heap.size+1,3,none⟩=some (.bool false):=by
 have h:∀ j,w1.cell? ⟨w.heap.size+1,j,none⟩=#[Value.int .u16 0,.int .u16 0,.bool false,.bool false][j]?:=λj=>by
  rw [hb1.cell (p:=⟨w.heap.size+1,j,none⟩) (by simp)]
  exact Pl.new _ _ _ _ (by simp)
 exact ⟨h 0,h 1,h 2,h 3⟩
theorem resT {w w1:World} {o:Obj} (hb1:Below ((w.alloc o).alloc (.cells #[.int .u16 0,.int .u16 0,.bool false,.bool false] 31)).heap.size ((w.alloc o).alloc (.cells #[.int .u16 0,.int .u16 0,.bool false,.bool false] 31)) w1) :
 w1.there (w.heap.size+1) 0 4/\Below w.heap.size w w1:=by
 refine ⟨zbr (zaK (w.alloc o) #[.int .u16 0,.int .u16 0,.bool false,.bool false] 31 4 (w.heap.size+1) (by simp) rfl) hb1 (by simp),stp (stA (stA (st0 w) _) _) hb1⟩
theorem fin4 {w U:World} (r c:Int) (on g:Bool) (ht:U.there (w.heap.size+1) 0 4) (hB:Below w.heap.size w U) :
 Below w.heap.size w ((((U.setCell ⟨w.heap.size+1,0,none⟩ (.int .u16 r)).setCell ⟨w.heap.size+1,1,none⟩ (.int .u16 c)).setCell ⟨w.heap.size+1,2,none⟩ (.bool on)).setCell ⟨w.heap.size+1,3,none⟩ (.bool g)) /\
  ((((U.setCell ⟨w.heap.size+1,0,none⟩ (.int .u16 r)).setCell ⟨w.heap.size+1,1,none⟩ (.int .u16 c)).setCell ⟨w.heap.size+1,2,none⟩ (.bool on)).setCell ⟨w.heap.size+1,3,none⟩ (.bool g)).rangeAt (w.heap.size+1) 0 [.int .u16 r,.int .u16 c,.bool on,.bool g]:=by
 have h:=World.rangeAt_setCells_same U (w.heap.size+1) 0 [.int .u16 r,.int .u16 c,.bool on,.bool g] ht
 have h2:=Pl.below (Nat.le_succ w.heap.size) [.int .u16 r,.int .u16 c,.bool on,.bool g] 0 U hB
 simp only [World.setCells,Nat.zero_add,Nat.reduceAdd] at h h2
 exact ⟨h2,h⟩
theorem zhx {U:World} {b o:Nat} {L:List Value} (h:U.rangeAt b o L):U.drew.rangeAt b o L:=h
theorem keepT {W:World} {b0 b o:Nat} {r n:Int} {v:Value} (h:W.cell? ⟨b0,0,none⟩=some (.int .u16 r)/\W.cell? ⟨b,0,none⟩=some (.int .i64 n)) (hne:b≠b0) (ho:o≠0) :
 (W.setCell ⟨b0,o,none⟩ v).cell? ⟨b0,0,none⟩=some (.int .u16 r)/\(W.setCell ⟨b0,o,none⟩ v).cell? ⟨b,0,none⟩=some (.int .i64 n):=by
 refine ⟨(World.cell?_setCell_other _ _ _ _ ?_).trans h.1,(World.cell?_setCell_other _ _ _ _ ?_).trans h.2⟩
 ·intro e;exact ho (congrArg Addr.off e)
 ·intro e;exact hne (congrArg Addr.block e).symm
theorem zhy (r c n:Int) (g:Bool) (b:Nat) (w:World) (hr:0<=r/\r<=65535) (hc:0<=c/\c<=65535) (hn:0<=n/\n<=20000) (hb:w.cell? ⟨b,0,none⟩=some (.int .i64 n)) (hlt:b<w.heap.size) :
 Calls Tryz.prog 224 #[.agg #[.int .u16 r,.int .u16 c,.bool true,.bool g],.pointer (some ⟨b,0,none⟩)] w λe w'=>e = .returned (.agg #[.int .u16 r,.int .u16 (rnC r c true n),.bool true,.bool (rnG c true g n)])/\Below w.heap.size w w':=by
 have hne:b≠w.heap.size:=Nat.ne_of_lt hlt
 have hne1:b≠w.heap.size+1:=by omega
 by_cases h:n<c+1
 ·obtain ⟨e1,e2⟩:=zoy r c n g h
  rw [e1,e2]
  go_enter Tryz.func224,Tryz.ntmps224
  go_wp2_with (go_at_call 188;refine (ziN _ _ _ _ hc).mono ?_;rintro e w1 ⟨rfl,hb1⟩;obtain ⟨k1,f1⟩:=bcell hb1;have z1:w.heap.size+1<w1.heap.size:=Nat.lt_of_lt_of_le (by simp) hb1.size;have z10:=Nat.lt_of_succ_lt z1;have z0:b<w1.heap.size:=Nat.lt_of_lt_of_le hlt (Nat.le_of_lt (Nat.lt_of_succ_lt z1));obtain ⟨y0,y1,y2,y3⟩:=box4 hb1;obtain ⟨x0,x1,x2,x3⟩:=box4r hb1;have c1:=((stp (stA (stA (st0 w) _) _) hb1).cell (p:=⟨b,0,none⟩) hlt).trans hb)
  obtain ⟨hT,hB⟩:=resT hb1
  have hF:=fin4 (U:=w1.setCell ⟨w.heap.size,1,none⟩ (.int .u16 (c-n))) r (c-n) true g (World.there_setCells hT w.heap.size 1 [.int .u16 (c-n)]) (hB.setCell (Nat.le_refl _) _)
  refine Pl.cutB (λY=>Below w.heap.size w Y/\Y.rangeAt (w.heap.size+1) 0 [.int .u16 r,.int .u16 (c-n),.bool true,.bool g]) hF ?_
  rintro Y ⟨hY,hR⟩
  exact bodyPost_ret (v:=.agg _) (by simp only [results,Tryz.results224];simp;exact Pl.res (zaZ _ _ _ _ _ _ hR)) rfl ⟨rfl,hY⟩
 ·obtain ⟨e1,e2⟩:=zm5 r c n g h
  rw [e1,e2]
  go_enter Tryz.func224,Tryz.ntmps224
  go_wp2_with (go_at_call 188;refine (ziN _ _ _ _ hc).mono ?_;rintro e w1 ⟨rfl,hb1⟩;obtain ⟨k1,f1⟩:=bcell hb1;have z1:w.heap.size+1<w1.heap.size:=Nat.lt_of_lt_of_le (by simp) hb1.size;have z10:=Nat.lt_of_succ_lt z1;have z0:b<w1.heap.size:=Nat.lt_of_lt_of_le hlt (Nat.le_of_lt (Nat.lt_of_succ_lt z1));obtain ⟨y0,y1,y2,y3⟩:=box4 hb1;obtain ⟨x0,x1,x2,x3⟩:=box4r hb1;have c1:=((stp (stA (stA (st0 w) _) _) hb1).cell (p:=⟨b,0,none⟩) hlt).trans hb)
  have m1:=Int.emod_nonneg (n-(c+1)) (show r+1≠0 by omega)
  have m2:=Int.emod_lt_of_pos (n-(c+1)) (show 0<r+1 by omega)
  have q1:IntKind.i64.wrap (n-(c+1))=n-(c+1):=by simp [IntKind.wrap,IntKind.bits,IntKind.signed];omega
  have q2:IntKind.i64.wrap ((n-(c+1)).tmod (r+1))=(n-(c+1))%(r+1):=by rw [Int.tmod_eq_emod_of_nonneg (by omega)];simp [IntKind.wrap,IntKind.bits,IntKind.signed];omega
  have q3:IntKind.u16.wrap ((n-(c+1))%(r+1))=(n-(c+1))%(r+1):=by rw [IntKind.wrap_u16];omega
  have q4:IntKind.u16.wrap (r-(n-(c+1))%(r+1))=r-(n-(c+1))%(r+1):=by rw [IntKind.wrap_u16];omega
  have q5:r+1≠0:=by omega
  have hne2:¬ (w.heap.size=b):=λe=>hne e.symm
  clear k1 hb
  go_region_held3 (λw'=>w'.cell? ⟨w.heap.size,0,none⟩=some (.int .u16 r)/\w'.cell? ⟨b,0,none⟩=some (.int .i64 n))
   (first
     | exact keepT ⟨y0,c1⟩ hne (by decide)
     | exact keepT (keepT ⟨y0,c1⟩ hne (by decide)) hne (by decide)
     | (go_keep;done))
   (fail)
  go_wp2
  obtain ⟨hT,hB⟩:=resT hb1
  have hF:=fin4 (U:=(w1.setCell ⟨w.heap.size,1,none⟩ (.int .u16 (r-(n-(c+1))%(r+1)))).setCell ⟨w.heap.size,3,none⟩ (.bool true)) r (r-(n-(c+1))%(r+1)) true true (World.there_setCells (World.there_setCells hT w.heap.size 1 [.int .u16 (r-(n-(c+1))%(r+1))]) w.heap.size 3 [.bool true]) ((hB.setCell (Nat.le_refl _) _).setCell (Nat.le_refl _) _)
  refine Pl.cutB (λY=>Below w.heap.size w Y/\Y.rangeAt (w.heap.size+1) 0 [.int .u16 r,.int .u16 (r-(n-(c+1))%(r+1)),.bool true,.bool true]) ⟨hF.1.drew,zhx hF.2⟩ ?_
  rintro Y ⟨hY,hR⟩
  exact bodyPost_ret (v:=.agg _) (by simp only [results,Tryz.results224];simp;exact Pl.res (zaZ _ _ _ _ _ _ hR)) rfl ⟨rfl,hY⟩
/-! ### whenOn -/
theorem zg0 (r c:Int) (g:Bool) (f:Value) (w:World) :
 Calls Tryz.prog 114 #[.agg #[.int .u16 r,.int .u16 c,.bool false,.bool g],f] w λe w'=>e = .returned (.agg #[.int .u16 r,.int .u16 c,.bool false,.bool g])/\Below w.heap.size w w':=by
 go_enter Tryz.func114,Tryz.ntmps114
 go_wp2
 refine bodyPost_ret (v:=.agg _) (by simp [results,Tryz.results114,go_sem]) rfl ⟨rfl,?_⟩
 exact (stA (stA (st0 _) _) _)
theorem zla (r c:Int) (g:Bool) (w:World) :
 Calls Tryz.prog 114 #[.agg #[.int .u16 r,.int .u16 c,.bool true,.bool g],.func (.func 251) #[] #[]] w λe w'=>e = .returned (.agg #[.int .u16 r,.int .u16 r,.bool true,.bool g])/\Below w.heap.size w w':=by
 go_enter Tryz.func114,Tryz.ntmps114
 go_wp2_with (go_at_call 251;refine (zk9 _ _ _ _ _).mono ?_;rintro e w1 ⟨rfl,hb1⟩;obtain ⟨k1,f1⟩:=bcell hb1;have z1:w.heap.size+1<w1.heap.size:=Nat.lt_of_lt_of_le (by simp) hb1.size)
 have hF:=fin4 r r true g (resT hb1).1 (resT hb1).2
 refine Pl.cutB (λY=>Below w.heap.size w Y/\Y.rangeAt (w.heap.size+1) 0 [.int .u16 r,.int .u16 r,.bool true,.bool g]) hF ?_
 rintro Y ⟨hY,hR⟩
 exact bodyPost_ret (v:=.agg _) (by simp only [results,Tryz.results114];simp;exact Pl.res (zaZ _ _ _ _ _ _ hR)) rfl ⟨rfl,hY⟩
theorem zhz (r c n:Int) (g:Bool) (b:Nat) (w:World) (hr:0<=r/\r<=65535) (hc:0<=c/\c<=65535) (hn:0<=n/\n<=20000) (hb:w.cell? ⟨b,0,none⟩=some (.int .i64 n)) (hlt:b<w.heap.size) :
 Calls Tryz.prog 114 #[.agg #[.int .u16 r,.int .u16 c,.bool true,.bool g],.func (.func 224) #[] #[.pointer (some ⟨b,0,none⟩)]] w λe w'=>e = .returned (.agg #[.int .u16 r,.int .u16 (rnC r c true n),.bool true,.bool (rnG c true g n)])/\Below w.heap.size w w':=by
 have hc2:=λo1 o2=>((stA (stA (st0 w) o1) o2).cell (p:=⟨b,0,none⟩) hlt).trans hb
 go_enter Tryz.func114,Tryz.ntmps114
 go_wp2_with (go_at_call 224;refine (zhy _ _ _ _ _ _ hr hc hn (hc2 _ _) (by simp;omega)).mono ?_;rintro e w1 ⟨rfl,hb1⟩;obtain ⟨k1,f1⟩:=bcell hb1;have z1:w.heap.size+1<w1.heap.size:=Nat.lt_of_lt_of_le (by simp) hb1.size)
 have hF:=fin4 r (rnC r c true n) true (rnG c true g n) (resT hb1).1 (resT hb1).2
 refine Pl.cutB (λY=>Below w.heap.size w Y/\Y.rangeAt (w.heap.size+1) 0 [.int .u16 r,.int .u16 (rnC r c true n),.bool true,.bool (rnG c true g n)]) hF ?_
 rintro Y ⟨hY,hR⟩
 exact bodyPost_ret (v:=.agg _) (by simp only [results,Tryz.results114];simp;exact Pl.res (zaZ _ _ _ _ _ _ hR)) rfl ⟨rfl,hY⟩
/-! ### Set, Tick, Run -/
theorem zfc (r c:Int) (o0 on g:Bool) (w:World) :
 Calls Tryz.prog 221 #[.agg #[.int .u16 r,.int .u16 c,.bool o0,.bool g],.bool on] w λe w'=>e = .returned (.agg #[.int .u16 r,.int .u16 (sel on r c),.bool on,.bool g])/\Below w.heap.size w w':=by
 cases on
 ·go_enter Tryz.func221,Tryz.ntmps221
  go_wp2_with (go_at_call 114;refine (zg0 _ _ _ _ _).mono ?_;rintro e w1 ⟨rfl,hb1⟩;obtain ⟨k1,f1⟩:=bcell hb1;have z1:w.heap.size+1<w1.heap.size:=Nat.lt_of_lt_of_le (by simp) hb1.size)
  have hF:=fin4 r c false g (resT hb1).1 (resT hb1).2
  refine Pl.cutB (λY=>Below w.heap.size w Y/\Y.rangeAt (w.heap.size+1) 0 [.int .u16 r,.int .u16 c,.bool false,.bool g]) hF ?_
  rintro Y ⟨hY,hR⟩
  exact bodyPost_ret (v:=.agg _) (by simp only [results,Tryz.results221];simp;exact Pl.res (zaZ _ _ _ _ _ _ hR)) rfl ⟨rfl,hY⟩
 ·go_enter Tryz.func221,Tryz.ntmps221
  go_wp2_with (go_at_call 114;refine (zla _ _ _ _).mono ?_;rintro e w1 ⟨rfl,hb1⟩;obtain ⟨k1,f1⟩:=bcell hb1;have z1:w.heap.size+1<w1.heap.size:=Nat.lt_of_lt_of_le (by simp) hb1.size)
  have hF:=fin4 r r true g (resT hb1).1 (resT hb1).2
  refine Pl.cutB (λY=>Below w.heap.size w Y/\Y.rangeAt (w.heap.size+1) 0 [.int .u16 r,.int .u16 r,.bool true,.bool g]) hF ?_
  rintro Y ⟨hY,hR⟩
  exact bodyPost_ret (v:=.agg _) (by simp only [results,Tryz.results221];simp;exact Pl.res (zaZ _ _ _ _ _ _ hR)) rfl ⟨rfl,hY⟩
section
variable {F : Fx} {W : World} {M M' : Mach} {tk : Tk}
theorem zm6:∀ s:Nat,s<256->bits .and .u8 (s:Int) 2=((s:Int)/2%2)*2:=by decide +kernel
theorem zfd (s:Int) (h:0<=s/\s<=255):bits .and .u8 s 2=s/2%2*2:=by
 obtain ⟨k,rfl⟩:=Int.eq_ofNat_of_zero_le h.1
 exact zm6 k (by omega)
theorem zby (x:Int):(x%2=0/\odd x=false) \/ (x%2=1/\odd x=true):=by
 unfold odd
 rcases (by omega:x%2=0 \/ x%2=1) with h|h
 ·exact Or.inl ⟨h,by rw [h];rfl⟩
 ·exact Or.inr ⟨h,by rw [h];rfl⟩
theorem ziO {l:Bool} {a b:Int} (ha:bd16 a) (hb:bd16 b):bd16 (sel l a b):=zgb (P:=bd16) l ha hb
theorem TM.put_bd {t:TM} (n:Int) (h1:bd16 t.r) (h2:bd16 t.c):bd16 (t.put n).r/\bd16 (t.put n).c:=⟨h1,ziO h1 h2⟩
theorem zhA (h:Bd F W M tk) (n:Int) (hn:0<=n/\n<=255):Calls Tryz.prog 167 #[pt F.g 0,.int .u8 n] W λe w'=>e = .returned (.tuple #[])/\Bd F w' (M.putM 4 n) tk/\Bt F W w':=by
 have c0:=h.at 41 (.int .u16 M.t.r) rfl
 have c1:=h.at 42 (.int .u16 M.t.c) rfl
 have c2:=h.at 43 (.bool M.t.on) rfl
 have c3:=h.at 44 (.bool M.t.g) rfl
 have ff:=h.bx.f
 have hg:=h.bx.z
 have H:=hid h
 have hk:=TM.put_bd (t:=M.t) n h.fit.tr h.fit.tc
 have a1:=zc2 n hn
 have a2:=zfd n hn
 have e0:M.putM 4 n={ M with t:=M.t.put n }:=rfl
 rw [e0]
 have hf:Mach.fit { M with t:=M.t.put n }:={ H.out.fit with main:=H.out.fit.main,tr:=hk.1,tc:=hk.2 }
 have HF:=hid hf
 clear h hf e0
 rcases zby n with ⟨p,q⟩|⟨p,q⟩
 all_goals
  rw [p] at a1
  rcases zby (n/2) with ⟨r,s⟩|⟨r,s⟩
 all_goals
  rw [r] at a2
  have HQ:=hid q
  have HS:=hid s
  clear p q r s
 ·go_enter Tryz.func167,Tryz.ntmps167
  go_wp2_with (go_at_call 221;refine (zfc _ _ _ _ _ _).mono ?_;rintro e w1 ⟨rfl,hb1⟩;obtain ⟨k1,f1⟩:=bcell hb1;have z2:F.g<w1.heap.size:=zel hg hb1 (by simp))
  go_end0
  refine ⟨rfl,?_,?_⟩
  ·exact (H.out.kept hb1).puts (M':={ M with t:=M.t.put n }) (tk':=tk) 41 [.int .u16 M.t.r,.int .u16 (sel false M.t.r M.t.c),.bool false,.bool M.t.g] (by simp) (by unfold TM.put;rw [HQ.out,HS.out];rfl) ⟨rfl,rfl,rfl,rfl,rfl⟩ HF.out
  ·exact Bt.sets H.out.nd [.int .u16 M.t.r,.int .u16 (sel false M.t.r M.t.c),.bool false,.bool M.t.g] 41 _ (Bt.kept (Bt.refl F W) H.out.big hb1)
 ·go_enter Tryz.func167,Tryz.ntmps167
  go_wp2_with (go_at_call 221;refine (zfc _ _ _ _ _ _).mono ?_;rintro e w1 ⟨rfl,hb1⟩;obtain ⟨k1,f1⟩:=bcell hb1;have z2:F.g<w1.heap.size:=zel hg hb1 (by simp))
  go_end0
  refine ⟨rfl,?_,?_⟩
  ·exact ((H.out.kept hb1).puts (M':={ M with t:=⟨M.t.r,sel false M.t.r M.t.c,false,M.t.g⟩ }) (tk':=tk) 41 [.int .u16 M.t.r,.int .u16 (sel false M.t.r M.t.c),.bool false,.bool M.t.g] (by simp) rfl ⟨rfl,rfl,rfl,rfl,rfl⟩ { H.out.fit with main:=H.out.fit.main,tr:=H.out.fit.tr,tc:=ziO (l:=false) (a:=M.t.r) (b:=M.t.c) H.out.fit.tr H.out.fit.tc }).put 44 (.bool false) (by omega) (by unfold TM.put;rw [HQ.out,HS.out];rfl) ⟨rfl,rfl,rfl,rfl,rfl⟩ HF.out
  ·exact Bt.set H.out.nd (Bt.sets H.out.nd [.int .u16 M.t.r,.int .u16 (sel false M.t.r M.t.c),.bool false,.bool M.t.g] 41 _ (Bt.kept (Bt.refl F W) H.out.big hb1)) 44 _
 ·go_enter Tryz.func167,Tryz.ntmps167
  go_wp2_with (go_at_call 221;refine (zfc _ _ _ _ _ _).mono ?_;rintro e w1 ⟨rfl,hb1⟩;obtain ⟨k1,f1⟩:=bcell hb1;have z2:F.g<w1.heap.size:=zel hg hb1 (by simp))
  go_end0
  refine ⟨rfl,?_,?_⟩
  ·exact (H.out.kept hb1).puts (M':={ M with t:=M.t.put n }) (tk':=tk) 41 [.int .u16 M.t.r,.int .u16 (sel true M.t.r M.t.c),.bool true,.bool M.t.g] (by simp) (by unfold TM.put;rw [HQ.out,HS.out];rfl) ⟨rfl,rfl,rfl,rfl,rfl⟩ HF.out
  ·exact Bt.sets H.out.nd [.int .u16 M.t.r,.int .u16 (sel true M.t.r M.t.c),.bool true,.bool M.t.g] 41 _ (Bt.kept (Bt.refl F W) H.out.big hb1)
 ·go_enter Tryz.func167,Tryz.ntmps167
  go_wp2_with (go_at_call 221;refine (zfc _ _ _ _ _ _).mono ?_;rintro e w1 ⟨rfl,hb1⟩;obtain ⟨k1,f1⟩:=bcell hb1;have z2:F.g<w1.heap.size:=zel hg hb1 (by simp))
  go_end0
  refine ⟨rfl,?_,?_⟩
  ·exact ((H.out.kept hb1).puts (M':={ M with t:=⟨M.t.r,sel true M.t.r M.t.c,true,M.t.g⟩ }) (tk':=tk) 41 [.int .u16 M.t.r,.int .u16 (sel true M.t.r M.t.c),.bool true,.bool M.t.g] (by simp) rfl ⟨rfl,rfl,rfl,rfl,rfl⟩ { H.out.fit with main:=H.out.fit.main,tr:=H.out.fit.tr,tc:=ziO (l:=true) (a:=M.t.r) (b:=M.t.c) H.out.fit.tr H.out.fit.tc }).put 44 (.bool false) (by omega) (by unfold TM.put;rw [HQ.out,HS.out];rfl) ⟨rfl,rfl,rfl,rfl,rfl⟩ HF.out
  ·exact Bt.set H.out.nd (Bt.sets H.out.nd [.int .u16 M.t.r,.int .u16 (sel true M.t.r M.t.c),.bool true,.bool M.t.g] 41 _ (Bt.kept (Bt.refl F W) H.out.big hb1)) 44 _
end
section
variable {F : Fx} {W : World} {M M' : Mach} {tk : Tk}
theorem zco (M:Mach) (a:Int):0<=M.lookA a/\M.lookA a<=255:=by
 unfold Mach.lookA romAt
 split
 ·split
  ·exact zcG _ _
  ·omega
 ·split
  ·exact zcG _ _
  ·split
   ·split
    ·exact zcG _ _
    ·omega
   ·omega
theorem zer (a:Int) (h0:0<=a/\a<=1):ReadsAt F M tk 143 a (M.lookA a):=by
 intro W h
 have hP:isPort a=false:=by unfold isPort;exact decide_eq_false (by omega)
 have hl:=hid (zfH h a (by omega))
 have hP':=hid hP
 have H:=hid h
 clear h hP
 go_enter Tryz.func92,Tryz.ntmps92
 go_wp2_with (first
  | (go_at_call 182;refine (zal a _ (by omega)).mono ?_;rw [hP'.out];rintro e w1 ⟨rfl,rfl⟩)
  | (go_at_call 184;refine hl.out.mono ?_;rintro e w1 ⟨rfl,rfl⟩))
 go_ret
 exact ⟨rfl,H.out,Bt.refl _ _⟩
theorem zes (a:Int) (h0:0<=a/\a<=1):ReadsAt F M tk 77 a (M.lookM a):=by
 intro W h
 have hP:isPort a=false:=by unfold isPort;exact decide_eq_false (by omega)
 have hl:=hid (zdh h a (by omega))
 have hP':=hid hP
 have H:=hid h
 clear h hP
 go_enter Tryz.func92,Tryz.ntmps92
 go_wp2_with (first
  | (go_at_call 182;refine (zal a _ (by omega)).mono ?_;rw [hP'.out];rintro e w1 ⟨rfl,rfl⟩)
  | (go_at_call 184;refine hl.out.mono ?_;rintro e w1 ⟨rfl,rfl⟩))
 go_ret
 exact ⟨rfl,H.out,Bt.refl _ _⟩
theorem zfM (h:M.fit) (n:Int):(M.grant n).fit:={ h with main:=h.main }
theorem zmB (x y:Int) (hx:0<=x/\x<=255) (hy:0<=y/\y<=255):(beginC x y).ok:=by
 refine ⟨rfl,λz hz=>?_,?_,?_⟩
 ·have:z=0:=by
   simp only [beginC,C.Cpu.zero,List.mem_cons,List.not_mem_nil,or_false] at hz
   omega
  omega
 ·show 0<=x*256+y;omega
 ·show x*256+y<=65535;omega
theorem ziP (h:Bd F W M tk) (n:Int) (hn:0<=n/\n<=255) (hh:(M.held && !(odd (n/2)))=false):Calls Tryz.prog 174 #[pt F.g 0,.int .u8 n] W λe w'=>e = .returned (.tuple #[])/\Bd F w' (M.putM 16 n) tk/\Bt F W w':=by
 have c0:=h.at 67 (.bool M.granted) rfl
 have c1:=h.at 68 (.bool M.held) rfl
 have ff:=h.bx.f
 have hg:=h.bx.z
 have H:=hid h
 have a1:=zc2 n hn
 have a2:=zfd n hn
 have e0:M.putM 16 n=M.grant n:=by show M.letGo n=_;unfold Mach.letGo;rw [if_neg (by rw [hh];decide)]
 rw [e0]
 have hp:Bd F ((W.setCell ⟨F.g,67,none⟩ (.bool (odd n))).setCell ⟨F.g,68,none⟩ (.bool (odd (n/2)))) (M.grant n) tk :=
  (h.put (M':={ M with granted:=odd n }) (tk':=tk) 67 _ (by omega) rfl ⟨rfl,rfl,rfl,rfl,rfl⟩ { h.fit with main:=h.fit.main }).put 68 _ (by omega) rfl ⟨rfl,rfl,rfl,rfl,rfl⟩ (zfM h.fit n)
 have HP:=hid hp
 clear h e0 hp
 generalize M.held=hd at *
 rcases zby n with ⟨p,q⟩|⟨p,q⟩
 all_goals
  rw [p] at a1
  rw [q] at HP
  rcases zby (n/2) with ⟨r,s⟩|⟨r,s⟩
 all_goals
  rw [r] at a2
  rw [s] at HP hh
  clear p q r s
  cases hd
 all_goals first
  | (exfalso;revert hh;decide)
  | (clear hh
     go_enter Tryz.func174,Tryz.ntmps174
     go_wp2
     go_end0
     exact ⟨rfl,HP.out,((Bt.refl _ _).set H.out.nd _ _).set H.out.nd _ _⟩)
end
section
variable {F : Fx} {W : World} {M M' : Mach} {tk : Tk}
theorem zbW (M:Mach) (a:Int):0<=M.lookM a/\M.lookM a<=255:=by
 unfold Mach.lookM romAt
 split
 ·split
  ·exact zcG _ _
  ·omega
 ·split
  ·exact zcG _ _
  ·split
   ·exact zcG _ _
   ·omega
theorem ziQ (M:Mach) (k:Nat):(M.xfer k).fr=M.fr/\(M.xfer k).to=M.to/\(M.xfer k).mrom=M.mrom/\(M.xfer k).ram=M.ram/\(M.xfer k).video.length=M.video.length/\{ M.xfer k with video:=M.video }=M:=by
 induction k with
 | zero=>exact ⟨rfl,rfl,rfl,rfl,rfl,rfl⟩
 | succ k ih =>
  obtain ⟨h1,h2,h3,h4,h5,h6⟩:=ih
  exact ⟨h1,h2,h3,h4,by simp [Mach.xfer,zbU,h5],h6⟩
theorem Bd.xf (h:Bd F W M tk) (cap:Nat) (hc:F.S.vi = .slice (some ⟨F.vi,0,none⟩) 256 cap):W.cell? ⟨F.g,34,none⟩=some (.slice (some ⟨F.vi,0,none⟩) 256 cap)/\W.cell? ⟨F.g,65,none⟩=some (.int .u16 M.fr)/\W.cell? ⟨F.g,66,none⟩=some (.int .u16 M.to) :=
 ⟨by rw [<- hc];exact h.at 34 _ rfl,h.at 65 _ rfl,h.at 66 _ rfl⟩
theorem zm7 {a b c:Value} {o:Nat} {v:Value} (hne:F.g≠F.vi) (h:W.cell? ⟨F.g,34,none⟩=some a/\W.cell? ⟨F.g,65,none⟩=some b/\W.cell? ⟨F.g,66,none⟩=some c) :
 (W.setCell ⟨F.vi,o,none⟩ v).drew.cell? ⟨F.g,34,none⟩=some a/\(W.setCell ⟨F.vi,o,none⟩ v).drew.cell? ⟨F.g,65,none⟩=some b/\(W.setCell ⟨F.vi,o,none⟩ v).drew.cell? ⟨F.g,66,none⟩=some c :=
 ⟨zcj hne h.1,zcj hne h.2.1,zcj hne h.2.2⟩
theorem ziR (h:Bd F W M tk) (n:Int) (hn:0<=n/\n<=255) (htk:0<=tk.n/\tk.n<=1000000000000):Calls Tryz.prog 172 #[pt F.g 0,.int .u8 n] W λe w'=>e = .returned (.tuple #[])/\Bd F w' (M.putM 14 n) (tk.add (2*n))/\Bt F W w':=by
 obtain ⟨cap,hcap,_,_⟩:=h.viV
 have HC:=hid hcap
 obtain ⟨N,rfl⟩:=Int.eq_ofNat_of_zero_le hn.1
 have hN:N<=255:=by omega
 have H:=hid h
 have hfr:=h.fit.fr
 have hto:=h.fit.to
 have hne:=h.nd.d.2.2.1
 clear h hcap
 go_enter Tryz.func172,Tryz.ntmps172
 go_wp2
 go_loopw [7] (λi wr=>∃ k:Nat,k<=N/\i = .int .u16 k/\Bd F wr (M.xfer k) tk/\Bt F W wr) (λi _=>N-(intOf i).toNat)
 case atStart=>exact ⟨0,by omega,rfl,H.out,Bt.refl _ _⟩
 case round =>
  obtain ⟨k,hk,rfl,hB,hT⟩:=hrel
  by_cases hlt:k<N
  ·have HB:=hid hB
   have HT:=hid hT
   obtain ⟨r1,r2,_,_,r5,_⟩:=ziQ M k
   obtain ⟨c1,c2,c3⟩:=hB.xf cap HC.out
   rw [r1] at c2
   rw [r2] at c3
   have hg:=hB.bx.z
   obtain ⟨v1,v2,v3⟩:=hB.viAt ((M.to+k)%65536%256) (by omega) (by omega)
   have hlt2:(k:Int)<N:=by omega
   have hcell:∀ w:World,Calls Tryz.prog 161 #[.slice (some ⟨F.vi,0,none⟩) 256 cap,.int .u16 ((M.to+k)%65536)] w λe w'=>e = .returned (pt F.vi ((M.to+k)%65536%256).toNat)/\w=w':=λw=>zbm F.vi 256 cap ((M.to+k)%65536) w (by omega) (by omega) (by omega)
   have hput:=hid (HB.out.drew.putVideo ((M.to+k)%65536%256) ((M.xfer k).lookM ((M.fr+k)%65536)) (by omega) (by omega) (zbW _ _))
   have hmv:=hid (Bt.setV HB.out.nd HT.out.drew ((M.to+k)%65536%256).toNat (.int .u8 ((M.xfer k).lookM ((M.fr+k)%65536))))
   clear hB hT
   have hlook:=hid (zdh HB.out.drew ((M.fr+k)%65536) (by omega))
   generalize hj:((M.to+k)%65536%256).toNat=j at *
   generalize hx:(M.xfer k).lookM ((M.fr+k)%65536)=x at *
   have HCL:=hid hcell
   have HJ:=hid hj
   have HXX:=hid hx
   clear hj hx hcell
   go_wp2
   go_region_held3 (λw'=>w'.cell? ⟨F.g,34,none⟩=some (.slice (some ⟨F.vi,0,none⟩) 256 cap)/\w'.cell? ⟨F.g,65,none⟩=some (.int .u16 M.fr)/\w'.cell? ⟨F.g,66,none⟩=some (.int .u16 M.to))
    ((first|(with_reducible exact ⟨c1,c2,c3⟩)|(with_reducible exact zm7 hne ⟨c1,c2,c3⟩)|(go_keep;done)))
    ((first
      | (go_at_call 161;refine (HCL.out _).mono ?_;rintro e w1 ⟨rfl,rfl⟩)
      | (go_at_call 184;refine hlook.out.mono ?_;rintro e w1 ⟨rfl,rfl⟩)))
   go_wp2
   go_roundw
   case rel =>
    refine ⟨k+1,by omega,by go_num,?_,hmv.out⟩
    have hp:=hput.out
    rw [<- HXX.out] at hp
    rw [<- HXX.out]
    exact hp
   case measure=>simp [intOf];omega
  ·obtain rfl:k=N:=by omega
   have c1:=hB.at 75 (.int .i64 tk.n) rfl
   have f1:=hB.bx.f 75
   have hg:=hB.bx.z
   have HB:=hid hB
   have HT:=hid hT
   have e0:M.putM 14 (k:Int)=M.xfer k:=by show M.xfer (k:Int).toNat=_;rw [Int.toNat_natCast]
   have E0:=hid e0
   clear hB hT e0
   go_wp2
   go_end0
   rw [E0.out]
   exact ⟨rfl,HB.out.put 75 _ (by omega) rfl ⟨rfl,rfl,rfl,rfl,rfl⟩ HB.out.fit,HT.out.set HB.out.nd 75 _⟩
end
end Go.Proofs.YtbennamieealbaaGreatDoor
