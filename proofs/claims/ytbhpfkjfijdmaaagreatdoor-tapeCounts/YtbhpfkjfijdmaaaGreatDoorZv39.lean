/-
  Parts of a proof, joined.
-/
import Derived.Test.YtbhpfkjfijdmaaaGreatDoorZv38
import Derived.Test.YtbhpfkjfijdmaaaGreatDoorZv12
import Derived.Test.YtbhpfkjfijdmaaaGreatDoorZv26
import Derived.Test.YtbhpfkjfijdmaaaGreatDoorZv31
import Derived.Deep.Slices
import Derived.Test.YtbhpfkjfijdmaaaGreatDoorZv36
import Derived.BigQuiet
import Derived.Deep.CutBlock
import Derived.Test.YtbhpfkjfijdmaaaGreatDoorZv02
import Derived.Shelf.Strings.Builder1
import Derived.Lib.AtoiAll
import Derived.Lib.ItoaNum
import Derived.Lib.Split
namespace Go.Proofs.YtbhpfkjfijdmaaaGreatDoor
open Go.ChangeShapes Go.WideShapes Go.ChangeAt Go.RowKit
set_option linter.unusedVariables false
set_option maxRecDepth 100000
set_option maxHeartbeats 1600000
abbrev nil3:List Value:=[.slice none 0 0,.slice none 0 0,.slice none 0 0]
structure R3 (w1 : World) (X : Mach) (S' : Sl) (L : List Value) (Y : World) : Prop where
 old:Below w1.heap.size w1 Y
 x:Bx Y w1.heap.size (machL X S')
 s:Bx Y (w1.heap.size+1) L
section
variable {w1 Y Y' : World} {X : Mach} {S' : Sl} {L : List Value}
theorem R3.mk1 (w1:World) (X:Mach) (S':Sl):R3 w1 X S' nil3 (((w1.alloc (.cells (machL zeroM nilS).toArray 41)).alloc (.cells #[.slice none 0 0,.slice none 0 0,.slice none 0 0] 50)).setCells w1.heap.size 0 (machL X S')):=by
 have h1:=((Bx.new w1 (machL zeroM nilS) 41 (b:=w1.heap.size) rfl).over (.cells #[.slice none 0 0,.slice none 0 0,.slice none 0 0] 50)).puts 0 (machL X S') (by rw [machL_len,machL_len];omega)
 rw [putL_whole _ _ (by rw [machL_len,machL_len])] at h1
 exact ⟨below_sets' (stA (stA (st0 w1) _) _) (Nat.le_refl _) _ _,h1,DW.bb (Bx.new (w1.alloc (.cells (machL zeroM nilS).toArray 41)) nil3 50 (b:=w1.heap.size+1) (by simp)) (by omega)⟩
theorem R3.put {x y z x' y' z':Value} (h:R3 w1 X S' [x,y,z] Y):R3 w1 X S' [x',y',z'] (Y.setCells (w1.heap.size+1) 0 [x',y',z']):=by
 have h1:=h.s.puts 0 [x',y',z'] (by simp)
 rw [putL_whole _ _ (by simp)] at h1
 exact ⟨below_sets' h.old (by omega) _ _,DW.bb h.x (by omega),h1⟩
theorem R3.kept (h:R3 w1 X S' L Y) (hb:Below Y.heap.size Y Y'):R3 w1 X S' L Y':=⟨stp h.old hb,h.x.kept hb,h.s.kept hb⟩
end
theorem R3.th1 (w1:World):((w1.alloc (.cells (machL zeroM nilS).toArray 41)).alloc (.cells #[.slice none 0 0,.slice none 0 0,.slice none 0 0] 50)).there w1.heap.size 0 75:=((Bx.new w1 (machL zeroM nilS) 41 (b:=w1.heap.size) rfl).over _).there 0 75 (by rw [machL_len];omega)
theorem one3 (a1 a2 a3:Option Addr) (n1 n2 n3 c1 c2 c3:Nat):(#[.slice a1 n1 c1,.slice a2 n2 c2,.slice a3 n3 c3]:Array Value).all (·.oneCell')=true:=by simp [Value.oneCell']
theorem fld {H:Type} {enc:TypeId × Value->H} {P:Program} {w:World} {base:Nat} {spare:Nat->Bool} {held:Bool} {n i o:Nat} {ty:TypeId} {cs:List Value} {xs:List (DataW H × List MemPlace)}
 (h:DataW.trod enc P w base spare held n ty ((cs.drop o).take (P.cellsOf ty))=xs[i]?) (hi:i < xs.length) (hc:P.cellsOf ty=1) {v:Value} (hv:cs[o]? = some v):∃ y,DataW.trod enc P w base spare held n ty [v]=some y:=by
 rw [hc,List.getElem?_eq_getElem hi] at h
 have e:(cs.drop o).take 1=[v]:=by
  rw [List.take_one,List.head?_drop,hv]
  rfl
 rw [e] at h
 exact ⟨_,h⟩
theorem fld_int {H:Type} {enc:TypeId × Value->H} {P:Program} {w:World} {base:Nat} {spare:Nat->Bool} {held:Bool} {n i o:Nat} {ty:TypeId} {cs:List Value} {xs:List (DataW H × List MemPlace)} {k:IntKind}
 (h:DataW.trod enc P w base spare held n ty ((cs.drop o).take (P.cellsOf ty))=xs[i]?) (hi:i < xs.length) (hc:P.cellsOf ty=1) (ht:P.underlying ty=some (.int k)) {v:Value} (hv:cs[o]? = some v):∃ a:Int,v = .int k a/\(Lit.int k a).wf=true:=by
 obtain ⟨y,hy⟩:=fld h hi hc hv
 obtain ⟨a,e,_,hw⟩:=DataW.trod_int ht hy
 simp only [List.cons.injEq,and_true] at e
 exact ⟨a,e,hw⟩
theorem list3 {s:List Value} (h:s.length=3):∃ c0 c1 c2,s=[c0,c1,c2]:=by
 match s,h with
 | [c0,c1,c2],_=>exact ⟨c0,c1,c2,rfl⟩
theorem opn_bytes {H:Type} {enc:TypeId × Value->H} {W:World} {v:Value} {n:Nat} {x:DataW H × List MemPlace} (hf:DataW.trod enc Tryz.prog W 0 (fun _=>true) true n 26 [v]=some x):∃ l,sliceAt W v l/\l.length<=maxLen:=by
 have c1:Tryz.prog.cellsOf 5=1:=by kernel_rfl
 rcases open_ints Tryz.underlying26 Tryz.underlying5 c1 hf with ⟨hc,_⟩ | ⟨ad,len',cap',zs,hc,_,hl,hm,hz,_,hcell,hwf⟩
 ·have e:v = .slice none 0 0:=by simpa using hc
  rw [e]
  exact ⟨[],Or.inl ⟨none,0,rfl,rfl⟩,by simp⟩
 ·have e:v = .slice (some ad) len' cap':=by simpa using hc
  rw [e]
  simp only [if_true] at hz
  by_cases h0:len'=0
  ·subst h0
   exact ⟨[],Or.inl ⟨some ad,cap',rfl,rfl⟩,by simp⟩
  ·have hs:=Pl.spot (hcell 0 (by omega))
   obtain ⟨g,o,sp⟩:=ad
   have hs':sp=none:=by
    cases sp with
    | none=>rfl
    | some x=>simp [Addr.add] at hs
   subst hs'
   refine ⟨(zs.take len').map (fun z=>UInt8.ofNat z.toNat),Or.inr ⟨g,o,cap',by rw [List.length_map,List.length_take,Nat.min_eq_left (by omega)],by rw [List.length_map,List.length_take];omega,World.block_lt_of_cell? W _ (hcell 0 (by omega)),fun j c hj=>?_⟩,by rw [List.length_map,List.length_take];omega⟩
   rw [List.getElem?_map] at hj
   obtain ⟨z,hz1,hz2⟩:=Option.map_eq_some_iff.1 hj
   have hjl:j < len':=by
    have:=(List.getElem?_eq_some_iff.1 hz1).1
    rw [List.length_take] at this;omega
   rw [List.getElem?_take_of_lt hjl] at hz1
   have hzj:j < zs.length:=(List.getElem?_eq_some_iff.1 hz1).1
   have hw:=bounds_u8 (hwf z (List.mem_of_getElem? hz1))
   have:=hcell j hzj
   rw [addr_add,show zs.getD j 0=z by simp [List.getD,hz1]] at this
   rw [this,<- hz2]
   rw [show (UInt8.ofNat z.toNat).toNat=z.toNat by simp;omega,show ((z.toNat:Nat):Int)=z by omega]
instance : Inhabited Inp := ⟨⟨0, 0, 0⟩⟩
structure Inp.fits (x : Inp) : Prop where
 c:-9223372036854775808<=x.c/\x.c<=9223372036854775807
 p:-9223372036854775808<=x.p/\x.p<=9223372036854775807
 d:0<=x.d/\x.d<=255
theorem opn_inp {H:Type} {enc:TypeId × Value->H} {w:World} {base:Nat} {spare:Nat->Bool} {held:Bool} {n:Nat} {x:DataW H × List MemPlace} {s:List Value} (h:DataW.trod enc Tryz.prog w base spare held n 54 s=some x) (hs:s.length=3):∃ p:Inp,s=[.int .i64 p.c,.int .i64 p.p,.int .u8 p.d]/\p.fits:=by
 have hE:Tryz.prog.cellsOf 5=1:=by kernel_rfl
 have hI:Tryz.prog.cellsOf 3=1:=by kernel_rfl
 obtain ⟨c0,c1,c2,rfl⟩:=list3 hs
 obtain ⟨xs,m,_,_,_,hlen,hfs⟩:=DataW.trod_struct Tryz.underlying54 h
 have hl:xs.length=3:=hlen
 obtain ⟨a0,rfl,wa0⟩:=fld_int (ty:=3) (o:=0) (v:=c0) (hfs 0 _ rfl) (by omega) hI Tryz.underlying3 rfl
 obtain ⟨a1,rfl,wa1⟩:=fld_int (ty:=3) (o:=1) (v:=c1) (hfs 1 _ rfl) (by omega) hI Tryz.underlying3 rfl
 obtain ⟨a2,rfl,wa2⟩:=fld_int (ty:=5) (o:=2) (v:=c2) (hfs 2 _ rfl) (by omega) hE Tryz.underlying5 rfl
 exact ⟨⟨a0,a1,a2⟩,rfl,bounds_i64 wa0,bounds_i64 wa1,bounds_u8 wa2⟩
theorem open_inputs {H:Type} {enc:TypeId × Value->H} {W:World} {base:Nat} {v:Value} {d:DataW H} {p:List MemPlace} (hv:Value.okWide Tryz.prog W .any base 42 v) (hd:DataW.Trod enc Tryz.prog W 0 (fun _=>true) true 42 v d p) :
 ∃ l:List Inp,InpAt W.heap.size W v l/\l.length<=maxLen /\ ∀ x ∈ l,x.fits:=by
 obtain ⟨a,len,cap,rfl⟩:=okWide_slice Tryz.underlying42 hv
 obtain ⟨fuel,hf⟩:=hd
 have c3:Tryz.prog.cellsOf 54=3:=by kernel_rfl
 rcases Go.Deep.open_slice Tryz.underlying42 hf with ⟨hc,_⟩ | ⟨ad,len',cap',m,n,D,Pp,hc,_,hl,hm,hmm,_,hx⟩
 ·have e:(Value.slice a len cap) = .slice none 0 0:=by simpa [Value.cells] using hc
  rw [e]
  exact ⟨[],Or.inl ⟨rfl,none,0,rfl⟩,by simp,by simp⟩
 ·have e:(Value.slice a len cap) = .slice (some ad) len' cap':=by simpa [Value.cells] using hc
  rw [e]
  simp only [if_true] at hmm
  by_cases h0:len'=0
  ·subst h0
   exact ⟨[],Or.inl ⟨rfl,some ad,cap',rfl⟩,by simp,by simp⟩
  ·have hall:∀ i,i < len'->∃ q:Inp,(W.cell? (ad.add (i * 3))=some (.int .i64 q.c)/\W.cell? (ad.add (i * 3+1))=some (.int .i64 q.p)/\W.cell? (ad.add (i * 3+2))=some (.int .u8 q.d))/\q.fits:=fun i hi=>by
    obtain ⟨cs',h1,h2⟩:=hx i (by omega)
    rw [c3] at h1
    obtain ⟨_,hlen,hcell⟩:=World.cells?_some h1
    obtain ⟨q,rfl,hq⟩:=opn_inp h2 hlen
    have e0:=hcell 0 (by omega)
    have e1:=hcell 1 (by omega)
    have e2:=hcell 2 (by omega)
    rw [Go.Deep.add_add] at e0 e1 e2
    exact ⟨q,⟨by simpa using e0,by simpa using e1,by simpa using e2⟩,hq⟩
   obtain ⟨q,hq⟩:=Go.Deep.choose_lt hall
   have hs:=Pl.spot ((hq 0 (by omega)).1.1)
   obtain ⟨g,o,sp⟩:=ad
   have hs':sp=none:=by
    cases sp with
    | none=>rfl
    | some x=>simp [Addr.add] at hs
   subst hs'
   have hlt:g < W.heap.size:=World.block_lt_of_cell? W _ ((hq 0 (by omega)).1.1)
   refine ⟨(List.range len').map q,Or.inr ⟨g,o,cap',by rw [List.length_map,List.length_range],by rw [List.length_map,List.length_range];exact hl,hlt,hlt,fun j x hj=>?_⟩,by rw [List.length_map,List.length_range];omega,fun x hx=>?_⟩
   ·rw [List.getElem?_map] at hj
    obtain ⟨i,hi1,hi2⟩:=Option.map_eq_some_iff.1 hj
    obtain ⟨hjl,hi3⟩:=List.getElem?_eq_some_iff.1 hi1
    rw [List.length_range] at hjl
    rw [List.getElem_range] at hi3
    subst hi3
    subst hi2
    obtain ⟨⟨e0,e1,e2⟩,_⟩:=hq j hjl
    rw [addr_add] at e0 e1 e2
    rw [Nat.mul_comm 3 j]
    exact ⟨e0,e1,e2⟩
   ·obtain ⟨i,hi,rfl⟩:=List.mem_map.1 hx
    exact (hq i (List.mem_range.1 hi)).2
end Go.Proofs.YtbhpfkjfijdmaaaGreatDoor
namespace Go.Proofs.YtbhpfkjfijdmaaaGreatDoor
open Go.ChangeShapes Go.WideShapes Go.ChangeAt Go.RowKit
theorem lines_len (l a f:Int):∀ j:Nat,(linesAt l a f j).length<=j
 | 0=>Nat.le_refl _
 | j+1=>by
  show (linesAt l a f j++(lineAt l a f j).toList).length<=_
  have:=lines_len l a f j
  have h1:(lineAt l a f j).toList.length<=1:=by cases lineAt l a f j <;> simp
  rw [List.length_append];omega
structure Cs.counts (M : Mach) (k : Cs) (n : Nat) : Prop where
 ln:k.ln.map (fun x=>(x.f,x.l))=linesAt M.b.l M.b.a M.b.f n
 sm:(k.sm.length:Int)=if M.s.w < n then (n - M.s.w - 1) / 16+1 else 0
 clock:k.s.M.clock=M.clock+n
theorem counts_of (M:Mach) (l:List Inp) (n:Nat) (hf:M.fit) (hb:BOk M.b.l M.b.a M.b.f) (h19:M.b.f<=19000) (hn:n<=20000) (hc:(Cs.clocks ⟨⟨M,0,[]⟩,l,[],[]⟩ n).s.M.clock=M.clock+n):Cs.counts M (Cs.clocks ⟨⟨M,0,[]⟩,l,[],[]⟩ n) n:=by
 have h1:=clocks_ln ⟨⟨M,0,[]⟩,l,[],[]⟩ hb h19 rfl n hn
 have h2:=clocks_sm ⟨⟨M,0,[]⟩,l,[],[]⟩ hb h19 n hn
 have h3:=(sms_count (s:=M.s) { hf.s with w:=hf.w } n).1
 refine ⟨h1,?_,hc⟩
 rw [h2,<- h3]
 simp
theorem clock_at (k0:Cs):∀ j:Nat,(k0.clocks j).s.M.clock=k0.s.M.clock+j
 | 0=>by simp [Cs.clocks]
 | j+1=>by
  show (k0.clocks j).now.s.M.clock+1=_
  rw [now_clock,clock_at k0 j];push_cast;omega
structure CW (w w1 : World) (M : Mach) (S : Sl) (X : Mach) (S' : Sl) (L : List Value) (k : Cs) (B : Nat) (Z : World) : Prop where
 low:Below w.heap.size w Z
 m:Bx Z w.heap.size (machL M S)
 r:R3 w1 X S' L Z
 ln:Z.ownsRow B 58 18 (L.getD 0 (.int .i64 0)) k.ln.length (lcs k.ln)
theorem CW.kept {w w1:World} {M:Mach} {S:Sl} {X:Mach} {S':Sl} {L:List Value} {k:Cs} {B:Nat} {Z Z':World} (h:CW w w1 M S X S' L k B Z) (hb:Below Z.heap.size Z Z'):CW w w1 M S X S' L k B Z' :=
 ⟨stp h.low hb,h.m.kept hb,h.r.kept hb,ows_of h.ln (fun j e=>hb.block j (row_at h.ln j e).2.1)⟩
def Tp.bren:Go.Shelf.Ren:=⟨fun | 166=>59 | 167=>61 | 240=>101 | 276=>148 | 169=>62 | n=>n,fun | 0=>0 | 3=>3 | 4=>4 | 5=>5 | 9=>9 | 20=>20 | 37=>26 | 70=>144 | 72=>146 | 75=>148 | 164=>223 | 80=>153 | 127=>192 | n=>n,fun | n=>n⟩
theorem Tp.lays166:Go.Proofs.Lays.n166 Tryz.prog Tp.bren:={
 mixed:=by kernel_rfl
 f166:=Tryz.func59.trans (congrArg some (by kernel_rfl))
 f240:=Tryz.func101.trans (congrArg some (by kernel_rfl))
 f276:=Tryz.func148.trans (congrArg some (by kernel_rfl))
 t0:=Tryz.underlying0
 a0:=Tryz.isAgg0
 z0:=Tryz.sizeOf0
 v0:=Tryz.zeroValue0
 t3:=Tryz.underlying3
 a3:=Tryz.isAgg3
 z3:=Tryz.sizeOf3
 v3:=Tryz.zeroValue3
 t4:=Tryz.underlying4
 a4:=Tryz.isAgg4
 z4:=Tryz.sizeOf4
 v4:=Tryz.zeroValue4
 t9:=Tryz.underlying9
 a9:=Tryz.isAgg9
 z9:=Tryz.sizeOf9
 v9:=Tryz.zeroValue9
 t20:=Tryz.underlying20
 a20:=Tryz.isAgg20
 z20:=Tryz.sizeOf20
 v20:=Tryz.zeroValue20
 t37:=Tryz.underlying26
 a37:=Tryz.isAgg26
 z37:=Tryz.sizeOf26
 v37:=Tryz.zeroValue26
 t70:=Tryz.underlying144
 a70:=Tryz.isAgg144
 z70:=Tryz.sizeOf144
 v70:=Tryz.zeroValue144
 t72:=Tryz.underlying146
 a72:=Tryz.isAgg146
 z72:=Tryz.sizeOf146
 v72:=Tryz.zeroValue146
 t75:=Tryz.underlying148
 a75:=Tryz.isAgg148
 z75:=Tryz.sizeOf148
 v75:=Tryz.zeroValue148
 t164:=Tryz.underlying223
 a164:=Tryz.isAgg223
 z164:=Tryz.sizeOf223
 v164:=Tryz.zeroValue223 }
theorem Tp.lays167:Go.Proofs.Lays.n167 Tryz.prog Tp.bren:={
 mixed:=by kernel_rfl
 f167:=Tryz.func61.trans (congrArg some (by kernel_rfl))
 f240:=Tryz.func101.trans (congrArg some (by kernel_rfl))
 f276:=Tryz.func148.trans (congrArg some (by kernel_rfl))
 t0:=Tryz.underlying0
 a0:=Tryz.isAgg0
 z0:=Tryz.sizeOf0
 v0:=Tryz.zeroValue0
 t4:=Tryz.underlying4
 a4:=Tryz.isAgg4
 z4:=Tryz.sizeOf4
 v4:=Tryz.zeroValue4
 t5:=Tryz.underlying5
 a5:=Tryz.isAgg5
 z5:=Tryz.sizeOf5
 v5:=Tryz.zeroValue5
 t9:=Tryz.underlying9
 a9:=Tryz.isAgg9
 z9:=Tryz.sizeOf9
 v9:=Tryz.zeroValue9
 t20:=Tryz.underlying20
 a20:=Tryz.isAgg20
 z20:=Tryz.sizeOf20
 v20:=Tryz.zeroValue20
 t37:=Tryz.underlying26
 a37:=Tryz.isAgg26
 z37:=Tryz.sizeOf26
 v37:=Tryz.zeroValue26
 t70:=Tryz.underlying144
 a70:=Tryz.isAgg144
 z70:=Tryz.sizeOf144
 v70:=Tryz.zeroValue144
 t72:=Tryz.underlying146
 a72:=Tryz.isAgg146
 z72:=Tryz.sizeOf146
 v72:=Tryz.zeroValue146
 t75:=Tryz.underlying148
 a75:=Tryz.isAgg148
 z75:=Tryz.sizeOf148
 v75:=Tryz.zeroValue148
 t164:=Tryz.underlying223
 a164:=Tryz.isAgg223
 z164:=Tryz.sizeOf223
 v164:=Tryz.zeroValue223 }
theorem Tp.lays169:Go.Proofs.Lays.n169 Tryz.prog Tp.bren:={
 mixed:=by kernel_rfl
 f169:=Tryz.func62.trans (congrArg some (by kernel_rfl))
 t0:=Tryz.underlying0
 a0:=Tryz.isAgg0
 z0:=Tryz.sizeOf0
 v0:=Tryz.zeroValue0
 t3:=Tryz.underlying3
 a3:=Tryz.isAgg3
 z3:=Tryz.sizeOf3
 v3:=Tryz.zeroValue3
 t9:=Tryz.underlying9
 a9:=Tryz.isAgg9
 z9:=Tryz.sizeOf9
 v9:=Tryz.zeroValue9
 t37:=Tryz.underlying26
 a37:=Tryz.isAgg26
 z37:=Tryz.sizeOf26
 v37:=Tryz.zeroValue26
 t70:=Tryz.underlying144
 a70:=Tryz.isAgg144
 z70:=Tryz.sizeOf144
 v70:=Tryz.zeroValue144
 t72:=Tryz.underlying146
 a72:=Tryz.isAgg146
 z72:=Tryz.sizeOf146
 v72:=Tryz.zeroValue146
 t127:=Tryz.underlying192
 a127:=Tryz.isAgg192
 z127:=Tryz.sizeOf192
 v127:=Tryz.zeroValue192 }
theorem Tp.bextra:Builder.Extra Tryz.prog Tp.bren:={
 sizeBuilder:=by kernel_rfl
 liesBuilder:=by kernel_rfl
 t5:=Tryz.underlying5
 a5:=Tryz.isAgg5
 z5:=Tryz.sizeOf5
 v5:=Tryz.zeroValue5
 infoByte:=by kernel_rfl
 cellsByte:=by kernel_rfl
 sizeByte:=by kernel_rfl
 neB5:=by decide }
theorem Tp.own_none (v:Value):v.ownBlock=none \/ v.ownBlock ≠ none:=by cases v.ownBlock with
 | none=>exact Or.inl rfl
 | some g=>exact Or.inr (by simp)
theorem Tp.grown_of_below {w w':World} (h:Below w.heap.size w w'):w.grownBy w' none:=⟨h.os,h.tape,h.output,h.size,fun k hk _=>h.block k hk⟩
theorem Tp.isB_kept {T e:TypeId} {B b:Nat} {bs:List Value} {w w':World} (h:Lib.IsBuilder T e B b bs w) (hb:Below w.heap.size w w'):Lib.IsBuilder T e B b bs w':=by
 have key:∀ p,Lib.BuilderAt T e B b p bs w->Lib.BuilderAt T e B b p bs w':=fun p hp=>by
  have hlt:=hp.lt
  obtain ⟨hB,v,hk,hown,hne⟩:=hp
  exact ⟨hB,v,(hb.block b hlt).trans hk,hown.kept (Tp.grown_of_below hb) (Tp.own_none v),hne⟩
 rcases h with h | h
 ·exact Or.inl (key _ h)
 ·exact Or.inr (key _ h)
theorem Tp.strCells_mk (l:List UInt8):Lib.strCells (mk l)=Lib.byteCells l:=by
 first | rfl | simp [Lib.strCells,Lib.byteCells,mk]
theorem Tp.byteCells_append (a b:List UInt8):Lib.byteCells a++Lib.byteCells b=Lib.byteCells (a++b):=by
 first | rfl | simp [Lib.byteCells]
theorem Tp.byteCells_len (a:List UInt8):(Lib.byteCells a).length=a.length:=by
 first | rfl | simp [Lib.byteCells]
theorem Tp.write_any (B b:Nat) (acc:List UInt8) (s:List UInt8) (w:World) (h:Lib.IsBuilder 146 5 B b (Lib.byteCells acc) w) (hl:acc.length+s.length<=1000000) (hB:B<=w.heap.size) :
 Calls Tryz.prog 59 #[.pointer (some ⟨b,0,none⟩),.string (mk s)] w fun e w'=>e = .returned (.tuple #[.int .i64 (mk s).size,.nilIface])/\Lib.IsBuilder 146 5 B b (Lib.byteCells (acc++s)) w'/\Below B w w':=by
 refine (Any.Builder_WriteString Tp.lays166 Tp.bextra B b (Lib.byteCells acc) (mk s) w h ?_ hB).mono fun e w' ⟨he,h1,h2⟩=>⟨he,Or.inr ?_,h2⟩
 ·rw [Tp.byteCells_len,show (mk s).size=s.length from rfl];omega
 ·rw [Tp.strCells_mk,Tp.byteCells_append] at h1
  exact h1
theorem Tp.writeByte_any (B b:Nat) (acc:List UInt8) (w:World) (h:Lib.IsBuilder 146 5 B b (Lib.byteCells acc) w) (hl:acc.length<=1000000) (hB:B<=w.heap.size) :
 Calls Tryz.prog 61 #[.pointer (some ⟨b,0,none⟩),.int .u8 10] w fun e w'=>e = .returned .nilIface/\Lib.IsBuilder 146 5 B b (Lib.byteCells (acc++[10])) w'/\Below B w w':=by
 refine (Any.Builder_WriteByte Tp.lays167 Tp.bextra B b (Lib.byteCells acc) 10 w h ?_ hB).mono fun e w' ⟨he,h1,h2⟩=>⟨he,Or.inr ?_,h2⟩
 ·rw [Tp.byteCells_len];omega
 ·have e1:Lib.byteCells acc++[.int .u8 10]=Lib.byteCells (acc++[10]):=Tp.byteCells_append acc [10]
  rw [e1] at h1
  exact h1
def Tp.text (l:List Tp.In):List UInt8:=(l.map (fun x=>x.line++[10])).flatten
theorem Tp.text_next {l:List Tp.In} {j:Nat} {x:Tp.In} (h:l[j]? = some x):Tp.text (l.take (j+1))=Tp.text (l.take j)++x.line++[10]:=by
 unfold Tp.text
 rw [List.take_add_one,h]
 simp
theorem Tp.text_len:∀ l:List Tp.In,(∀ x ∈ l,x.ok)->(Tp.text l).length<=64 * l.length
 | [],_=>Nat.le_refl _
 | x :: l,h=>by
  have h1:=Tp.In.line_len (h x (List.mem_cons_self ..))
  have h2:=Tp.text_len l (fun y hy=>h y (List.mem_cons_of_mem _ hy))
  unfold Tp.text at *
  rw [List.map_cons,List.flatten_cons,List.length_append,List.length_append,List.length_cons]
  simp only [List.length_cons,List.length_nil]
  omega
def Tp.printS (l:List Tp.In):List UInt8:=if Tp.chkIn l 0=0 then Tp.text l else []
theorem Tp.print_any (l:List Tp.In) (v:Value) (B:Nat) (w:World) (h:Tp.InAt B w v l) (hB:B<=w.heap.size) (hok:∀ x ∈ l,x.ok) (hF:Tp.F w) :
 Calls Tryz.prog 36 #[v] w fun e w'=>e = .returned (.tuple #[.string (mk (Tp.printS l)),.int .i64 (Tp.chkIn l 0)])/\Below w.heap.size w w':=by
 have HC:=hid (Tp.checkInputs l v B 0 w h hB)
 by_cases hc:Tp.chkIn l 0=0
 ·have hl40:l.length<=40:=by
   rcases Nat.lt_or_ge 40 l.length with h1 | h1
   ·have:Tp.chkIn l 0=2:=if_pos h1
    rw [this] at hc
    cases hc
   ·exact h1
  have hp:Tp.printS l=Tp.text l:=if_pos hc
  rw [hp]
  rw [hc] at HC ⊢
  obtain ⟨a1,k1,e1⟩:=h.len
  subst e1
  have H:=hid h
  have HO:=hid hok
  have HFF:=hid hF
  clear h hok hF hp hc
  go_enter Tryz.func36,Tryz.ntmps36
  go_wp2_with (go_at_call 48;refine HC.out.mono ?_;rintro e w1 ⟨rfl,hb1⟩)
  have HB1:=hid hb1
  clear hb1
  go_loopw [15] (fun i wr=>∃ j:Nat,j<=l.length/\i = .int .i64 j/\Lib.IsBuilder 146 5 w1.heap.size w1.heap.size (Lib.byteCells (Tp.text (l.take j))) wr/\Below w1.heap.size w1 wr) (fun i _=>l.length - (intOf i).toNat)
  case atStart=>exact ⟨0,Nat.zero_le _,rfl,Lib.fresh_isBuilder _ _ w1,stA (st0 _) _⟩
  case round =>
   obtain ⟨j,hj,rfl,hbu,hb⟩:=hrel
   have HB:=hid hb
   have HU:=hid hbu
   have hbw:=stp HB1.out hb
   by_cases hlt:j < l.length
   ·obtain ⟨x,hx⟩:∃ x,l[j]? = some x:=⟨_,List.getElem?_eq_getElem hlt⟩
    have hxo:=HO.out x (List.mem_of_getElem? hx)
    have HN:=hid (Tp.text_next hx)
    have hlen:=Tp.text_len (l.take j) (fun y hy=>HO.out y (List.mem_of_mem_take hy))
    rw [List.length_take,Nat.min_eq_left hj] at hlen
    have hll:=Tp.In.line_len hxo
    have HH:=(H.out.kept (hbw.mono hB))
    obtain ⟨g,o,k,ev,gz,x0,x1,x2⟩:=HH.at' hx
    cases ev
    have hjl:(j:Int) < l.length:=by omega
    have hj0:(0:Int)<=j:=by omega
    have hsz:=hb.size
    have HFw:=hid (HFF.out.kept hbw)
    obtain ⟨xc,xp,xd⟩:=x
    simp only at x0 x1 x2
    clear hb hbw hbu hx HH
    go_wp2_with (first
     | (go_at_call 60;refine (Tp.line_any ⟨xc,xp,xd⟩ hxo _ (HFw.out.kept (stA (st0 _) _))).mono ?_;rintro e w2 ⟨rfl,hb2⟩;have HB2:=hid hb2;have HU2:=hid (Tp.isB_kept (Tp.isB_kept HU.out (stA (st0 _) _)) hb2);have hs2:=(stp (stA (st0 wr) _) hb2).size;clear hb2)
     | (go_at_call 59;refine (Tp.write_any _ _ _ _ _ HU2.out (by omega) (by omega)).mono ?_;rintro e w3 ⟨rfl,hu3,hb3⟩;have HB3:=hid hb3;have HU3:=hid hu3;have hs3:=hb3.size;clear hb3 hu3)
     | (go_at_call 61;refine (Tp.writeByte_any _ _ _ _ HU3.out (by rw [List.length_append];omega) (by omega)).mono ?_;rintro e w4 ⟨rfl,hu4,hb4⟩;have HB4:=hid hb4;have HU4:=hid hu4;clear hb4 hu4))
    exact ⟨⟨j+1,by omega,by simp,by rw [HN.out];exact HU4.out,(((HB.out.alloc hsz _).trans (HB2.out.mono (by simp;omega))).trans HB3.out).trans HB4.out⟩,by simp [intOf];omega⟩
   ·have hj2:j=l.length:=by omega
    subst hj2
    have hnl:¬ (l.length:Int) < l.length:=by omega
    have hsz:=hb.size
    have HU2:Hid (Lib.IsBuilder 146 5 w1.heap.size w1.heap.size (Lib.byteCells (Tp.text l)) wr):=by rw [List.take_length] at hbu;exact hid hbu
    clear hb hbu hbw
    go_wp2_with (go_at_call 62;refine (Any.Builder_String_any Tp.lays169 Tp.bextra _ _ _ _ HU2.out hsz).mono ?_;rintro e w2 ⟨rfl,hb2⟩)
    go_ret2
    exact ⟨rfl,HB1.out.trans ((HB.out.trans hb2).mono HB1.out.size)⟩
 ·have hp:Tp.printS l=[]:=if_neg hc
  rw [hp]
  have hne:(Tp.chkIn l 0 != 0)=true:=by simpa using hc
  generalize Tp.chkIn l 0=ce at *
  clear h hok hF hp hc
  go_enter Tryz.func36,Tryz.ntmps36
  go_wp2_with (go_at_call 48;refine HC.out.mono ?_;rintro e w1 ⟨rfl,hb1⟩)
  go_ret2
  exact ⟨rfl,hb1⟩
theorem Tp.index_at (c:UInt8) (tl r:List UInt8) (h:tl.isPrefixOf r=true):∀ t:List UInt8,c ∉ t->Lib.index (t++c :: r) (c :: tl)=t.length
 | [],_=>by simp [Lib.index,h]
 | b :: t,hn=>by
  have hb:¬ c=b:=by simp at hn;exact hn.1
  have ih:=Tp.index_at c tl r h t (by simp at hn;exact hn.2)
  have h1:((t.length:Int) == -1)=false:=by simp
  simp [Lib.index,ih,h1]
  intro e;exact absurd e hb
theorem Tp.index_no (c:UInt8) (tl:List UInt8):∀ t:List UInt8,c ∉ t->Lib.index t (c :: tl) = -1
 | [],_=>rfl
 | b :: t,hn=>by
  have hb:¬ c=b:=by simp at hn;exact hn.1
  have ih:=Tp.index_no c tl t (by simp at hn;exact hn.2)
  simp [Lib.index,ih]
  intro e;exact absurd e hb
theorem Tp.cut_at (c:UInt8) (t r:List UInt8) (h:c ∉ t):Lib.cut (t++c :: r) [c]=(t,r,true):=by
 have e:=Tp.index_at c [] r (by simp) t h
 unfold Lib.cut
 rw [e,if_pos (by omega)]
 simp [List.drop_append]
theorem Tp.cut_no (c:UInt8) (t:List UInt8) (h:c ∉ t):Lib.cut t [c]=(t,[],false):=by
 have e:=Tp.index_no c [] t h
 unfold Lib.cut
 rw [e,if_neg (by omega)]
theorem Tp.dec_ne (u:Nat):Lib.decDigits u ≠ []:=by
 rw [Lib.decDigits];split <;> simp
theorem Tp.dec_digit (u:Nat):∀ c ∈ Lib.decDigits u,48<=c.toNat/\c.toNat<=57:=by
 induction u using Nat.strongRecOn with
 | _ u ih =>
  intro c hc
  rw [Lib.decDigits] at hc
  split at hc
  ·rw [List.mem_singleton] at hc;subst hc
   have e:(UInt8.ofNat (48+u)).toNat=(48+u) % 256:=by simp
   rw [e];omega
  ·rcases List.mem_append.1 hc with h | h
   ·exact ih (u / 10) (by omega) c h
   ·rw [List.mem_singleton] at h;subst h
    have e:(UInt8.ofNat (48+u % 10)).toNat=(48+u % 10) % 256:=by simp
    rw [e];omega
theorem Tp.parse_snoc (c:UInt8) (hc:48<=c.toNat/\c.toNat<=57):∀ (l:List UInt8) (acc v:Nat),Lib.parseUint10 acc l = .ok v->v < 1844674407370955161->Lib.parseUint10 acc (l++[c]) = .ok (v * 10+(c.toNat - 48))
 | [],acc,v,h,hv=>by
  simp only [Lib.parseUint10,Lib.NumEnd.ok.injEq] at h
  subst h
  simp only [List.nil_append,Lib.parseUint10]
  rw [if_pos hc,if_neg (by omega),if_neg (by omega)]
 | d :: l,acc,v,h,hv=>by
  simp only [Lib.parseUint10] at h
  simp only [List.cons_append,Lib.parseUint10]
  split at h
  ·rename_i h1
   split at h
   ·cases h
   ·rename_i h2
    split at h
    ·cases h
    ·rename_i h3
     rw [if_pos h1,if_neg h2,if_neg h3]
     exact Tp.parse_snoc c hc l _ v h hv
  ·cases h
theorem Tp.parse_dec (u:Nat) (hu:u<=9223372036854775808):Lib.parseUint10 0 (Lib.decDigits u) = .ok u:=by
 induction u using Nat.strongRecOn with
 | _ u ih =>
  rw [Lib.decDigits]
  split
  ·rename_i h
   have e:(UInt8.ofNat (48+u)).toNat=48+u:=by simp;omega
   simp only [Lib.parseUint10,e]
   rw [if_pos (by omega),if_neg (by omega),if_neg (by omega)]
   congr 1;omega
  ·rename_i h
   have e:(UInt8.ofNat (48+u % 10)).toNat=48+u % 10:=by simp;omega
   have:=Tp.parse_snoc (UInt8.ofNat (48+u % 10)) (by rw [e];omega) _ 0 _ (ih (u / 10) (by omega) (by omega)) (by omega)
   rw [this,e];congr 1;omega
theorem Tp.dec_cons (u:Nat):∃ c r,Lib.decDigits u=c :: r/\48<=c.toNat/\c.toNat<=57:=by
 cases h:Lib.decDigits u with
 | nil=>exact absurd h (Tp.dec_ne u)
 | cons c r=>exact ⟨c,r,rfl,Tp.dec_digit u c (by rw [h];simp)⟩
theorem Tp.atoi_itoa (n:Int) (h0:-9223372036854775808<=n) (h1:n<=9223372036854775807):Lib.atoiAll (Lib.itoa n) = .ok n:=by
 unfold Lib.itoa
 by_cases hn:n < 0
 ·rw [if_pos hn]
  have hp:=Tp.parse_dec n.natAbs (by omega)
  have hm:Lib.parseMag (Lib.decDigits n.natAbs) = .ok n.natAbs:=by unfold Lib.parseMag;rw [if_neg (Tp.dec_ne _),hp]
  have e:(45:UInt8).toNat=45:=rfl
  simp only [Lib.atoiAll,e,or_true,if_true,hm]
  rw [if_neg (by simp),if_neg (by omega)]
  congr 1;omega
 ·rw [if_neg hn]
  have hp:=Tp.parse_dec n.toNat (by omega)
  obtain ⟨c,r,hc,c0,c1⟩:=Tp.dec_cons n.toNat
  rw [hc] at hp ⊢
  have hm:Lib.parseMag (c :: r) = .ok n.toNat:=by unfold Lib.parseMag;rw [if_neg (by simp),hp]
  have n1:¬ c.toNat=43:=by omega
  have n2:¬ c.toNat=45:=by omega
  simp only [Lib.atoiAll,n1,n2,or_self,if_false,hm,false_and,not_false_eq_true,true_and]
  rw [if_neg (by omega)]
  congr 1;omega
theorem Tp.itoa_mem (n:Int):∀ c ∈ Lib.itoa n,c=45 \/ (48<=c.toNat/\c.toNat<=57):=by
 intro c hc
 unfold Lib.itoa at hc
 split at hc
 ·rcases List.mem_cons.1 hc with h | h
  ·exact Or.inl h
  ·exact Or.inr (Tp.dec_digit _ c h)
 ·exact Or.inr (Tp.dec_digit _ c hc)
theorem Tp.itoa_not (n:Int) (x:UInt8) (hx:x ≠ 45) (hx':¬ (48<=x.toNat/\x.toNat<=57)):x ∉ Lib.itoa n:=fun h=>by
 rcases Tp.itoa_mem n x h with h | h
 ·exact hx h
 ·exact hx' h
/-! ### parts between signs -/
def Tp.sp (c:UInt8):List UInt8->List (List UInt8)
 | []=>[[]]
 | x :: l=>if x=c then [] :: Tp.sp c l else match Tp.sp c l with
  | []=>[[x]]
  | p :: ps=>(x :: p) :: ps
theorem Tp.sp_no (c:UInt8):∀ u:List UInt8,c ∉ u->Tp.sp c u=[u]
 | [],_=>rfl
 | x :: u,h=>by
  have h1:¬ x=c:=fun e=>h (by simp [e])
  rw [Tp.sp,if_neg h1,Tp.sp_no c u (fun e=>h (List.mem_cons_of_mem _ e))]
theorem Tp.sp_at (c:UInt8) (r:List UInt8):∀ u:List UInt8,c ∉ u->Tp.sp c (u++c :: r)=u :: Tp.sp c r
 | [],_=>by simp [Tp.sp]
 | x :: u,h=>by
  have h1:¬ x=c:=fun e=>h (by simp [e])
  rw [List.cons_append,Tp.sp,if_neg h1,Tp.sp_at c r u (fun e=>h (List.mem_cons_of_mem _ e))]
theorem Tp.first_at (c:UInt8):∀ s:List UInt8,c ∈ s->∃ u r,s=u++c :: r/\c ∉ u
 | x :: s,h=>by
  by_cases e:x=c
  ·exact ⟨[],s,by rw [e];rfl,by simp⟩
  ·obtain ⟨u,r,h1,h2⟩:=Tp.first_at c s (by rcases List.mem_cons.1 h with h | h;exact absurd h.symm e;exact h)
   exact ⟨x :: u,r,by rw [h1];rfl,by simp [h2,Ne.symm e]⟩
theorem Tp.sp_ne (c:UInt8):∀ s:List UInt8,Tp.sp c s ≠ []
 | []=>by simp [Tp.sp]
 | x :: s=>by
  rw [Tp.sp]
  split
  ·simp
  ·split <;> simp
theorem Tp.split_from (c:UInt8):∀ (fuel:Nat) (s:List UInt8),s.length<=fuel->Lib.splitK [c] 0 (Lib.countFrom [c] fuel s) s=Tp.sp c s
 | 0,s,h=>by
  have:s=[]:=List.length_eq_zero_iff.1 (by omega)
  subst this
  rfl
 | fuel+1,s,h=>by
  by_cases hc:c ∈ s
  ·obtain ⟨u,r,rfl,hu⟩:=Tp.first_at c s hc
   have hi:=Tp.index_at c [] r (by simp) u hu
   have e1:((u.length:Int) == -1)=false:=by simp
   rw [Tp.sp_at c r u hu]
   unfold Lib.countFrom
   rw [hi,e1]
   simp only [Bool.false_eq_true,if_false,Int.toNat_natCast,List.length_cons,List.length_nil,Nat.zero_add]
   have e2:(u++c :: r).drop (u.length+1)=r:=by simp [List.drop_append]
   rw [e2,Nat.add_comm 1]
   unfold Lib.splitK
   rw [hi,e1]
   simp only [Bool.false_eq_true,if_false,Int.toNat_natCast,List.length_cons,List.length_nil,Nat.zero_add,Nat.add_zero]
   rw [e2,Tp.split_from c fuel r (by rw [List.length_append,List.length_cons] at h;omega)]
   simp
  ·rw [Tp.sp_no c s hc]
   unfold Lib.countFrom
   rw [Tp.index_no c [] s hc]
   rfl
theorem Tp.split_eq (c:UInt8) (s:List UInt8):Lib.split s [c]=Tp.sp c s:=by
 unfold Lib.split Lib.count
 exact Tp.split_from c _ s (by omega)
theorem Tp.sp_mem (c:UInt8) (s:List UInt8):∀ p ∈ Tp.sp c s,c ∉ p/\p.length<=s.length:=by
 induction s with
 | nil=>intro p hp;simp [Tp.sp] at hp;subst hp;simp
 | cons x s ih =>
  intro p hp
  rw [Tp.sp] at hp
  split at hp
  ·rcases List.mem_cons.1 hp with h | h
   ·subst h;simp
   ·obtain ⟨h1,h2⟩:=ih p h;exact ⟨h1,by simp;omega⟩
  ·rename_i hx
   cases hs:Tp.sp c s with
   | nil=>exact absurd hs (Tp.sp_ne c s)
   | cons q qs =>
    rw [hs] at hp ih
    rcases List.mem_cons.1 hp with h | h
    ·subst h
     obtain ⟨h1,h2⟩:=ih q (by simp)
     exact ⟨by simp [h1,Ne.symm hx],by simp;exact h2⟩
    ·obtain ⟨h1,h2⟩:=ih p (by simp [h]);exact ⟨h1,by simp;omega⟩
theorem Tp.sp_three {c:UInt8} {s a b d:List UInt8} (h:Tp.sp c s=[a,b,d]):s=a++c :: (b++c :: d)/\c ∉ a/\c ∉ b/\c ∉ d:=by
 have hm:=Tp.sp_mem c s
 rw [h] at hm
 have h1:=(hm a (by simp)).1
 have h2:=(hm b (by simp)).1
 have h3:=(hm d (by simp)).1
 refine ⟨?_,h1,h2,h3⟩
 by_cases hc:c ∈ s
 ·obtain ⟨u,r,rfl,hu⟩:=Tp.first_at c s hc
  rw [Tp.sp_at c r u hu] at h
  injection h with e1 e2
  subst e1
  by_cases hc2:c ∈ r
  ·obtain ⟨u2,r2,rfl,hu2⟩:=Tp.first_at c r hc2
   rw [Tp.sp_at c r2 u2 hu2] at e2
   injection e2 with e3 e4
   subst e3
   by_cases hc3:c ∈ r2
   ·obtain ⟨u3,r3,rfl,hu3⟩:=Tp.first_at c r2 hc3
    rw [Tp.sp_at c r3 u3 hu3] at e4
    injection e4 with e5 e6
    exact absurd e6 (Tp.sp_ne c r3)
   ·rw [Tp.sp_no c r2 hc3] at e4
    injection e4 with e5 e6
    rw [e5]
  ·rw [Tp.sp_no c r hc2] at e2
   injection e2 with e3 e4
   cases e4
 ·rw [Tp.sp_no c s hc] at h
  injection h with e1 e2
  cases e2
/-! ### a line, back -/
def Tp.atv (a:List UInt8):Int:=match Lib.atoiAll a with
 | .ok v=>v
 | .syntax=>0
 | .range=>Lib.atoiSat a
def Tp.wh (a:List UInt8):Option Int:=match Lib.atoiAll a with
 | .ok v=>if Lib.itoa v=a then some v else none
 | .syntax=>none
 | .range=>none
def Tp.rd (t:List UInt8):Option Tp.In:=match Tp.sp 32 t with
 | [a,b,d]=>match Tp.wh a,Tp.wh b,Tp.ofb d with
  | some x,some y,some z=>some ⟨x,y,z⟩
  | _,_,_=>none
 | _=>none
end Go.Proofs.YtbhpfkjfijdmaaaGreatDoor
