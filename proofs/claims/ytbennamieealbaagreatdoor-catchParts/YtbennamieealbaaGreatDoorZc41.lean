/-
  Parts of a proof, joined.
-/
import Derived.Test.YtbennamieealbaaGreatDoorZc40
import Derived.Test.YtbennamieealbaaGreatDoorZc26
import Derived.Deep.Slices
import Derived.Test.YtbennamieealbaaGreatDoorZc39
import Derived.Test.YtbennamieealbaaGreatDoorZc30
import Derived.Deep.CutBlock
import Derived.BigQuiet
set_option linter.unusedVariables false
set_option maxRecDepth 100000
namespace Go.Proofs.YtbennamieealbaaGreatDoor
open Go.ChangeShapes Go.WideShapes Go.ChangeAt Go.RowKit
instance : Inhabited Inp := ⟨⟨0, 0, 0⟩⟩
structure Inp.fits (x : Inp) : Prop where
 c:-9223372036854775808<=x.c/\x.c<=9223372036854775807
 p:-9223372036854775808<=x.p/\x.p<=9223372036854775807
 d:0<=x.d/\x.d<=255
theorem zq9 {H:Type} {enc:TypeId × Value->H} {w:World} {base:Nat} {spare:Nat->Bool} {held:Bool} {n:Nat} {x:DataW H × List MemPlace} {s:List Value} (h:DataW.trod enc Tryz.prog w base spare held n 58 s=some x) (hs:s.length=3):∃ p:Inp,s=[.int .i64 p.c,.int .i64 p.p,.int .u8 p.d]/\p.fits:=by
 have hE:Tryz.prog.cellsOf 5=1:=by kernel_rfl
 have hI:Tryz.prog.cellsOf 3=1:=by kernel_rfl
 obtain ⟨c0,c1,c2,rfl⟩:=list3 hs
 obtain ⟨xs,m,_,_,_,hlen,hfs⟩:=DataW.trod_struct Tryz.underlying58 h
 have hl:xs.length=3:=hlen
 obtain ⟨a0,rfl,wa0⟩:=zaz (ty:=3) (o:=0) (v:=c0) (hfs 0 _ rfl) (by omega) hI Tryz.underlying3 rfl
 obtain ⟨a1,rfl,wa1⟩:=zaz (ty:=3) (o:=1) (v:=c1) (hfs 1 _ rfl) (by omega) hI Tryz.underlying3 rfl
 obtain ⟨a2,rfl,wa2⟩:=zaz (ty:=5) (o:=2) (v:=c2) (hfs 2 _ rfl) (by omega) hE Tryz.underlying5 rfl
 exact ⟨⟨a0,a1,a2⟩,rfl,bounds_i64 wa0,bounds_i64 wa1,bounds_u8 wa2⟩
theorem zeg {H:Type} {enc:TypeId × Value->H} {W:World} {base:Nat} {v:Value} {d:DataW H} {p:List MemPlace} (hv:Value.okWide Tryz.prog W .any base 42 v) (hd:DataW.Trod enc Tryz.prog W 0 (λ_=>true) true 42 v d p) :
 ∃ l:List Inp,InpAt W.heap.size W v l/\l.length<=maxLen /\ ∀ x∈l,x.fits:=by
 obtain ⟨a,len,cap,rfl⟩:=okWide_slice Tryz.underlying42 hv
 obtain ⟨fuel,hf⟩:=hd
 have c3:Tryz.prog.cellsOf 58=3:=by kernel_rfl
 rcases Go.Deep.open_slice Tryz.underlying42 hf with ⟨hc,_⟩|⟨ad,len',cap',m,n,D,Pp,hc,_,hl,hm,hmm,_,hx⟩
 ·have e:(Value.slice a len cap) = .slice none 0 0:=by simpa [Value.cells] using hc
  rw [e]
  exact ⟨[],Or.inl ⟨rfl,none,0,rfl⟩,by simp,by simp⟩
 ·have e:(Value.slice a len cap) = .slice (some ad) len' cap':=by simpa [Value.cells] using hc
  rw [e]
  simp only [if_true] at hmm
  by_cases h0:len'=0
  ·subst h0
   exact ⟨[],Or.inl ⟨rfl,some ad,cap',rfl⟩,by simp,by simp⟩
  ·have hall:∀ i,i<len'->∃ q:Inp,(W.cell? (ad.add (i*3))=some (.int .i64 q.c)/\W.cell? (ad.add (i*3+1))=some (.int .i64 q.p)/\W.cell? (ad.add (i*3+2))=some (.int .u8 q.d))/\q.fits:=λi hi=>by
    obtain ⟨cs',h1,h2⟩:=hx i (by omega)
    rw [c3] at h1
    obtain ⟨_,hlen,hcell⟩:=World.cells?_some h1
    obtain ⟨q,rfl,hq⟩:=zq9 h2 hlen
    have e0:=hcell 0 (by omega)
    have e1:=hcell 1 (by omega)
    have e2:=hcell 2 (by omega)
    rw [Go.Deep.add_add] at e0 e1 e2
    exact ⟨q,⟨by simpa using e0,by simpa using e1,by simpa using e2⟩,hq⟩
   obtain ⟨q,hq⟩:=Go.Deep.choose_lt hall
   have hs:=Pl.spot ((hq 0 (by omega)).1.1)
   obtain ⟨g,o,sp⟩:=ad
   have hs':sp=none:=by
    cases sp with
    | none=>rfl
    | some x=>simp [Addr.add] at hs
   subst hs'
   have hlt:g<W.heap.size:=World.block_lt_of_cell? W _ ((hq 0 (by omega)).1.1)
   refine ⟨(List.range len').map q,Or.inr ⟨g,o,cap',by rw [List.length_map,List.length_range],by rw [List.length_map,List.length_range];exact hl,hlt,hlt,λj x hj=>?_⟩,by rw [List.length_map,List.length_range];omega,λx hx=>?_⟩
   ·rw [List.getElem?_map] at hj
    obtain ⟨i,hi1,hi2⟩:=Option.map_eq_some_iff.1 hj
    obtain ⟨hjl,hi3⟩:=List.getElem?_eq_some_iff.1 hi1
    rw [List.length_range] at hjl
    rw [List.getElem_range] at hi3
    subst hi3
    subst hi2
    obtain ⟨⟨e0,e1,e2⟩,_⟩:=hq j hjl
    rw [addr_add] at e0 e1 e2
    rw [Nat.mul_comm 3 j]
    exact ⟨e0,e1,e2⟩
   ·obtain ⟨i,hi,rfl⟩:=List.mem_map.1 hx
    exact (hq i (List.mem_range.1 hi)).2
def incs:List Inp->List Value
 | []=>[]
 | x::l=>.int .i64 x.c :: .int .i64 x.p :: .int .u8 x.d::incs l
theorem zgD:∀ l k:List Inp,incs (l++k)=incs l++incs k
 | [],k=>rfl
 | x::l,k=>by simp only [incs,List.cons_append,zgD l k]
theorem znf:∀ (l:List Inp) (j:Nat) (x:Inp),l[j]? = some x->(incs l)[3*j]? = some (.int .i64 x.c)/\(incs l)[3*j+1]? = some (.int .i64 x.p)/\(incs l)[3*j+2]? = some (.int .u8 x.d)
 | [],j,x,h=>by simp at h
 | y::l,0,x,h=>by
  simp only [List.getElem?_cons_zero,Option.some.injEq] at h
  subst h
  exact ⟨rfl,rfl,rfl⟩
 | y::l,j+1,x,h=>by
  rw [List.getElem?_cons_succ] at h
  obtain ⟨h1,h2,h3⟩:=znf l j x h
  rw [show 3*(j+1)=3*j+1+1+1 by omega]
  exact ⟨h1,h2,h3⟩
theorem zng {w:World} {B:Nat} {v:Value} {l:List Inp} (h:w.ownsRow B 58 3 v l.length (incs l)):InpAt w.heap.size w v l:=by
 by_cases h0:l=[]
 ·subst h0
  obtain ⟨a,c,e⟩:=zbI h
  exact Or.inl ⟨rfl,a,c,e⟩
 ·have hl:0<l.length:=by cases l with|nil=>exact absurd rfl h0|cons _ _=>simp
  obtain ⟨g,cap,e,h1,h2,h3⟩:=zhY h hl
  refine Or.inr ⟨g,0,cap,e,h1,h2,h2,λj x hj=>?_⟩
  obtain ⟨q1,q2,q3⟩:=znf l j x hj
  rw [Nat.zero_add]
  exact ⟨h3 _ _ q1,h3 _ _ q2,h3 _ _ q3⟩
theorem zjr:(Tryz.prog.info? 58).map (λi=>(i.zero,i.size,i.bytes))=some (some (.agg #[.int .i64 0,.int .i64 0,.int .u8 0]),3,24):=by kernel_rfl
theorem zpq (x:Inp) (w:World):(Instr.buildSlice 42 1 #[(0,.agg #[.int .i64 x.c,.int .i64 x.p,.int .u8 x.d])]).run Tryz.prog w = .ok (.slice (some ⟨w.heap.size,0,none⟩) 1 1) (w.alloc (.cells #[.int .i64 x.c,.int .i64 x.p,.int .u8 x.d] 58)):=by kernel_rfl
theorem znh (w:World) (x:Inp) (t:TypeId) {b:Nat} (hb:b=w.heap.size):RwAt (w.alloc (.cells #[.int .i64 x.c,.int .i64 x.p,.int .u8 x.d] t)) (.slice (some ⟨b,0,none⟩) 1 1) 1 3 (incs [x]):=by
 subst hb
 have h:=Bx.new w [.int .i64 x.c,.int .i64 x.p,.int .u8 x.d] t (b:=w.heap.size) rfl
 exact ⟨rfl,Or.inr ⟨w.heap.size,0,1,rfl,Nat.le_refl _,h.z,λj u hj=>by rw [Nat.zero_add];exact h.at j u hj⟩⟩
theorem zni (x:Inp):∀ u∈incs [x],u.oneCell'=true:=λu hu=>by
 simp only [incs,List.mem_cons,List.not_mem_nil,or_false] at hu
 rcases hu with rfl|rfl|rfl <;> rfl
/-! ### inputs that are right -/
theorem zb7:∀ (l:List Inp) (a:Int),chkL l a=0->Inps l /\ ∀ x∈l,x.c<=400000
 | [],a,_=>⟨List.Pairwise.nil,λx hx=>by cases hx⟩
 | y::l,a,h=>by
  unfold chkL at h
  split at h
  ·cases h
  ·rename_i h1
   split at h
   ·obtain ⟨i1,i2⟩:=zb7 l y.c h
    exact ⟨List.pairwise_cons.2 ⟨λx hx=>(zcz l y.c h x hx).2,i1⟩,λx hx=>by
     rcases List.mem_cons.1 hx with rfl|hx
     ·omega
     ·exact i2 x hx⟩
   ·cases h
theorem ziM:∀ (l:List Inp) (a:Int),Inps l->(∀ x∈l,a<=x.c/\x.c<=400000/\(x.p=0 \/ x.p=1))->chkL l a=0
 | [],a,_,_=>rfl
 | y::l,a,hp,h=>by
  obtain ⟨h1,h2,h3⟩:=h y List.mem_cons_self
  have hp':=List.pairwise_cons.1 hp
  rw [chk0 (by omega) h3]
  exact ziM l y.c hp'.2 (λx hx=>⟨hp'.1 x hx,(h x (List.mem_cons_of_mem _ hx)).2⟩)
theorem zb8 {l:List Inp} {a:Int} (h:chkIn l a=0):l.length<=40/\chkL l a=0:=by
 unfold chkIn at h
 split at h
 ·cases h
 ·exact ⟨by omega,h⟩
theorem zpr {l:List Inp} {a c:Int} (h:chkIn l a=0) (hc:a<=c):chkIn (l.filter (λx=>decide (c<=x.c))) c=0:=by
 obtain ⟨h1,h2⟩:=zb8 h
 obtain ⟨h3,h4⟩:=zb7 l a h2
 unfold chkIn
 rw [if_neg (by have:=List.length_filter_le (λx:Inp=>decide (c<=x.c)) l;omega)]
 refine ziM _ _ (List.Pairwise.filter _ h3) (λx hx=>?_)
 obtain ⟨hx1,hx2⟩:=List.mem_filter.1 hx
 exact ⟨by simpa using hx2,h4 x hx1,(zcz l a h2 x hx1).1⟩
def rest (l:List Inp) (c:Int) (j:Nat):List Inp:=(l.take j).filter (λx=>decide (c<=x.c))
theorem znj {l:List Inp} {c:Int} {j:Nat} {x:Inp} (h:l[j]? = some x):rest l c (j+1)=rest l c j++(if c<=x.c then [x] else []):=by
 unfold rest
 rw [List.take_add_one,h,List.filter_append]
 congr 1
 by_cases hc:c<=x.c
 ·simp [hc]
 ·simp [hc]
theorem zps (l:List Inp) (c:Int) (j:Nat):(rest l c j).length<=l.length:=by
 unfold rest
 have h1:=List.length_filter_le (λx:Inp=>decide (c<=x.c)) (l.take j)
 rw [List.length_take] at h1
 omega
/-! ### what lies where -/
structure PA (w : World) (M : Mach) (S : Sl) (v : Value) (l : List Inp) (w5 : World) (X : Mach) (SX : Sl) (p1 p2 p3 : Value) (k : Cs) (Y : World) : Prop where
 low:Below w.heap.size w Y
 m:Bx Y w.heap.size (machL M S)
 sm:SlAt Y S M
 inp:InpAt Y.heap.size Y v l
 r:R3 w5 X SX [p1,p2,p3] Y
 sx:SlAt Y SX X
 sh:ShAt Y p1 p2 p3 k.ln k.sm k.s.l
theorem PA.kept {w:World} {M:Mach} {S:Sl} {v:Value} {l:List Inp} {w5:World} {X:Mach} {SX:Sl} {p1 p2 p3:Value} {k:Cs} {Y Y':World} (h:PA w M S v l w5 X SX p1 p2 p3 k Y) (hb:Below Y.heap.size Y Y'):PA w M S v l w5 X SX p1 p2 p3 k Y' :=
 ⟨stp h.low hb,h.m.kept hb,h.sm.kept hb,(h.inp.kept hb).mono hb.size,h.r.kept hb,h.sx.kept hb,h.sh.kept hb⟩
/-! ### a frame over one letter -/
structure Two (M : Mach) (l : List Inp) (a b : Nat) (k k2 k3 : Cs) : Prop where
 e1:k=Cs.clocks ⟨⟨M,0,[]⟩,l,[],[]⟩ a
 e2:k2=Cs.clocks ⟨⟨k.s.M,0,[]⟩,rest l (M.clock+a) l.length,[],[]⟩ b
 e3:k3=Cs.clocks ⟨⟨M,0,[]⟩,l,[],[]⟩ (a+b)
 fit2:k.s.M.b.f<=20000
 clock:k.s.M.clock=M.clock+a
 M3:k3.s.M=k2.s.M
 ln:k3.ln=k.ln++k2.ln
 sm:k3.sm=k.sm++k2.sm
 ws:k3.s.l=k.s.l++k2.s.l
 z1:k.ln.length<=a/\k2.ln.length<=b
 z2:k.sm.length<=a/\k2.sm.length<=b
 z3:k.s.l.length<=4*a/\k2.s.l.length<=4*b
theorem zbp (l:List Inp) (c:Int):rest l c l.length=l.filter (λx=>decide (c<=x.c)):=by
 unfold rest
 rw [List.take_length]
theorem ziN (s:Bst) (h:s.l.length<=1000000):s.stepAux.l.length<=s.l.length+4:=by
 unfold Bst.stepAux
 split
 ·omega
 ·have hf:=C.fuel_step (m:=auxMem) (λs a=>Nat.le_refl _) (λs a b=>by
   have:=zmn s.M a (b%256)
   show 1000000001-s.l.length<=1000000001-(s.l++s.M.shA a (b%256)).length+1
   rw [List.length_append]
   omega) s.M.aux s s.M.rung
  have hf':1000000001-s.l.length<=1000000001-(C.step auxMem s.M.aux s s.M.rung).s.l.length+4:=hf
  show (C.step auxMem s.M.aux s s.M.rung).s.l.length<=_
  omega
theorem zco (k0:Cs) (h0:k0.ln=[]/\k0.sm=[]/\k0.s.l=[]):∀ j:Nat,j<=20000->(k0.clocks j).ln.length<=j/\(k0.clocks j).sm.length<=j/\(k0.clocks j).s.l.length<=4*j
 | 0,_=>⟨by show k0.ln.length<=0;rw [h0.1];simp,by show k0.sm.length<=0;rw [h0.2.1];simp,by show k0.s.l.length<=4*0;rw [h0.2.2];simp⟩
 | j+1,hj=>by
  obtain ⟨i1,i2,i3⟩:=zco k0 h0 j (by omega)
  obtain ⟨k,hk⟩:∃ k,k=k0.clocks j:=⟨_,rfl⟩
  have e:k0.clocks (j+1)=k.clock:=by rw [hk];rfl
  rw [<- hk] at i1 i2 i3
  rw [e]
  refine ⟨?_,?_,?_⟩
  ·show (k.ln++(k.s.M.pressed k.co).line).length<=_
   have:=zmJ (k.s.M.pressed k.co)
   rw [List.length_append];omega
  ·show (k.sm++(k.s.M.pressed k.co).sample).length<=_
   have:=zd8 (k.s.M.pressed k.co)
   rw [List.length_append];omega
  ·show ((Bst.stepMain ⟨k.s.M.pressed k.co,k.s.n,k.s.l⟩).stepAux).l.length<=_
   have h1:(Bst.stepMain ⟨k.s.M.pressed k.co,k.s.n,k.s.l⟩).l=k.s.l:=zda _
   have h2:=ziN (Bst.stepMain ⟨k.s.M.pressed k.co,k.s.n,k.s.l⟩) (by rw [h1];omega)
   rw [h1] at h2
   omega
theorem zsw (M:Mach) (l:List Inp) (a b:Nat) (hf:M.fit) (h19:M.b.f<=19000) (hc:chkIn l M.clock=0) (hab:a+b<=20000):∃ k k2 k3,Two M l a b k k2 k3:=by
 obtain ⟨h40,hl⟩:=zb8 hc
 obtain ⟨hp,_⟩:=zb7 l _ hl
 have hge:∀ x∈l,M.clock<=x.c:=λx hx=>(zcz l _ hl x hx).2
 have hlk:=zmP M l hp hge a b
 have hrn:=zbb ⟨⟨M,0,[]⟩,l,[],[]⟩ ⟨hf.b.l0,hf.b.l1,hf.b.a0,hf.b.a1,hf.b.f0,by show M.b.f<=20000;omega⟩ h19 a (by omega)
 have hcl:=(zbH ⟨⟨M,0,[]⟩,l,[],[]⟩ l rfl hp hge a).1
 have h1:=zco ⟨⟨M,0,[]⟩,l,[],[]⟩ ⟨rfl,rfl,rfl⟩ a (by omega)
 have h2:=zco ⟨⟨(Cs.clocks ⟨⟨M,0,[]⟩,l,[],[]⟩ a).s.M,0,[]⟩,l.filter (λx=>decide (M.clock+a<=x.c)),[],[]⟩ ⟨rfl,rfl,rfl⟩ b (by omega)
 have hb:=hf.b
 refine ⟨_,_,_,⟨rfl,rfl,rfl,?_,hcl,?_,?_,?_,?_,?_,?_,?_⟩⟩
 ·rw [hrn.f]
  show bmF M.b.l M.b.a M.b.f a<=20000
  have:=hb.l0;have:=hb.l1;have:=hb.a0;have:=hb.a1
  unfold bmF
  omega
 ·rw [zbp];exact hlk.s.M
 ·rw [zbp];exact hlk.ln
 ·rw [zbp];exact hlk.sm
 ·rw [zbp];exact hlk.s.l
 ·rw [zbp];exact ⟨h1.1,h2.1⟩
 ·rw [zbp];exact ⟨h1.2.1,h2.2.1⟩
 ·rw [zbp];exact ⟨h1.2.2,h2.2.2⟩
end Go.Proofs.YtbennamieealbaaGreatDoor
