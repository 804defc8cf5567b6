/-
  Parts of a proof, joined.
-/
import Derived.Test.YtbennamieealbaaGreatDoorZc06
import Derived.Test.YtbennamieealbaaGreatDoorZc01
import Derived.Test.YtbennamieealbaaGreatDoorZc00
import Derived.Lib.Builder
import Derived.Test.YtbennamieealbaaGreatDoorChecked
import GoSem.PinnedTables
import GoSem.Claim
import GoSem.ClaimJoined
import GoSem.ClaimMapViews
import Derived.JoinedTies
import Derived.KernelRfl
import Derived.WalkKit
import Derived.ProofKit
import Derived.OpenShut
import Derived.WalkSpells
import Derived.Test.YtbennamieealbaaGreatDoorZc02
import Derived.Deep.QuietTactic
import Derived.BigQuiet
import Derived.Outline
set_option linter.unusedVariables false
set_option maxRecDepth 100000
namespace Go.Proofs.YtbennamieealbaaGreatDoor
open Go.ChangeShapes Go.WideShapes Go.ChangeAt Go.RowKit
section
variable {P : Program} {md : Region.Mode} {ops : Array Oper} {Q : Exit -> Act -> World -> Prop} {S : World -> Prop} {st : Nat}
theorem tqH (i:Nat) (oi:Oper) {v:Value} {fuel:Nat} {listed:Array Bool} {a:Act} {w:World} (hS:S w) (h:wpAnyH P md ops Q S fuel (listed.setIfInBounds i true) (a.put oi.dst v) w) (hi:ops[i]? = some oi:=by rfl)
 (hs:Region.noSelect ops=true:=by kernel_rfl) (hf:Region.free md ops listed i=true:=by kernel_rfl) (hr:(Region.ready md ops listed).contains i=true:=by kernel_rfl)
 (hQ:∀ c a w,Q (.panic c) (a.put oi.dst v) w->Q (.panic c) a w:=by exact λ_ _ _ h=>h) (hg:Region.wanted oi (yielded ops a.tmps)=true:=by rfl) (hy:∀ w',S w'->(execOp a.eval oi).run P w' = .ok (.value v) w':=by (intro w hSw;clear hSw;go_simp;try (with_reducible rfl))):wpAnyH P md ops Q S (fuel+1) listed a w :=
 wpAnyH_take hi hs hf hr hQ (Or.inl ⟨hg,hy⟩) hS h
theorem tqK (i:Nat) (oi:Oper) {v:Value} {fuel:Nat} {listed:Array Bool} {a:Act} {w:World} (hS:S w) (h:wpAnyH P md ops Q S fuel (listed.setIfInBounds i true) (a.put oi.dst v) w) (hi:ops[i]? = some oi:=by rfl)
 (hs:Region.noSelect ops=true:=by kernel_rfl) (hf:Region.free md ops listed i=true:=by kernel_rfl) (hr:(Region.ready md ops listed).contains i=true:=by kernel_rfl)
 (hQ:∀ c a w,Q (.panic c) (a.put oi.dst v) w->Q (.panic c) a w:=by exact λ_ _ _ h=>h) (hg:Region.wanted oi (yielded ops a.tmps)=true:=by rfl) (hy:∀ w',S w'->(execOp a.eval oi).run P w' = .ok (.value v) w':=by (intro w hSw;(try dsimp only at hSw);go_simp;try (with_reducible rfl))):wpAnyH P md ops Q S (fuel+1) listed a w :=
 wpAnyH_take hi hs hf hr hQ (Or.inl ⟨hg,hy⟩) hS h
theorem tqG (i:Nat) (oi:Oper) {v:Value} {fuel:Nat} {listed:Array Bool} {a:Act} {w:World} (hS:listed.getD st true=false->S w) (h:wpAnyG P md ops Q S st fuel (listed.setIfInBounds i true) (a.put oi.dst v) w) (hi:ops[i]? = some oi:=by rfl)
 (hs:Region.noSelect ops=true:=by kernel_rfl) (hf:Region.free md ops listed i=true:=by kernel_rfl) (hr:(Region.ready md ops listed).contains i=true:=by kernel_rfl) (hsi:st≠i:=by decide)
 (hQ:∀ c a w,Q (.panic c) (a.put oi.dst v) w->Q (.panic c) a w:=by exact λ_ _ _ h=>h) (hg:Region.wanted oi (yielded ops a.tmps)=true:=by rfl) (hy:∀ w',True->(execOp a.eval oi).run P w' = .ok (.value v) w':=by (intro w hSw;go_simp;try (with_reducible rfl))):wpAnyG P md ops Q S st (fuel+1) listed a w :=
 zaX hi hs hf hr hsi hQ (Or.inl ⟨hg,hy⟩) hS h
end
theorem ze2 (k:Nat) (hk:k<32) (h30:k≠30) (w:World) (hs:shapesAt w) :
 Calls Tryz.prog 231 #[.int .i64 k] w λe w'=>e = .returned (.tuple #[.int .i64 (K.cyc k),.int .i64 (lenOf (O.mask k)),.int .i64 0])/\Below w.heap.size w w':=by
 have HS:=hid hs
 clear hs
 go_enter Tryz.func231,Tryz.ntmps231
 go_wp2_with (go_at_call 209;refine (zaU k hk h30 _ HS.out).mono ?_;rintro e w1 ⟨rfl,hb1⟩)
 go_region_held3 (λw'=>w'.cell? ⟨w1.heap.size,0,none⟩=some (.string (O.nameS k))/\w'.cell? ⟨w1.heap.size,1,none⟩=some (.int .i64 (K.cyc k))/\w'.cell? ⟨w1.heap.size,2,none⟩=some (.int .i64 (O.mask k)))
  (first
    | go_keep
    | (go_split_ands
       refine ⟨?_,?_,?_⟩
       ·(rw [hb2.cell (by simp)];assumption)
       ·(rw [hb2.cell (by simp)];assumption)
       ·(rw [hb2.cell (by simp)];assumption)))
  ((go_at_call 260;refine (zaO _ _ k hk _).mono ?_;rintro e w2 ⟨rfl,hb2⟩))
 go_wp2
 go_ret3
 exact ⟨rfl,stp (stA hb1 _).drew hb2⟩
end Go.Proofs.YtbennamieealbaaGreatDoor
namespace Go.Proofs.YtbennamieealbaaGreatDoor.C
structure Cpu where
 R:List Int
 PC:Int
 Z:Bool
 N:Bool
 C:Bool
 V:Bool
 May:Bool
 Waits:Bool
deriving DecidableEq
structure Mem (σ : Type) where
 rd:σ->Int->Int × σ
 wr:σ->Int->Int->σ
 fuel:σ->Nat:=λ_=>4
structure St (σ : Type) where
 c:Cpu
 s:σ
 n:Int
def Cpu.r (c:Cpu) (i:Int):Int:=c.R.getD i.toNat 0
def Cpu.set (c:Cpu) (i:Int) (x:Int):Cpu:={ c with R:=c.R.set i.toNat x }
def Cpu.zero:Cpu:=⟨[0,0,0,0,0,0,0,0],0,false,false,false,false,false,false⟩
def sign (c:Cpu):Int:=(if c.Z then 1 else 0)+(if c.N then 2 else 0)+(if c.C then 4 else 0)+(if c.V then 8 else 0)+(if c.May then 16 else 0)
def Cpu.ok (c:Cpu):Prop:=c.R.length=8/\(∀ x∈c.R,0<=x/\x<=65535)/\0<=c.PC/\c.PC<=65535
section
variable {σ : Type} (m : Mem σ)
def Mem.rdw (s:σ) (a:Int):Int × σ:=((m.rd s a).1*256+(m.rd (m.rd s a).2 ((a+1)%65536)).1,(m.rd (m.rd s a).2 ((a+1)%65536)).2)
def Mem.wrw (s:σ) (a n:Int):σ:=m.wr (m.wr s a (n/256)) ((a+1)%65536) (n%256)
def push (x:St σ) (n:Int):St σ:=⟨x.c.set 7 ((x.c.r 7-2)%65536),m.wrw x.s ((x.c.r 7-2)%65536) n,x.n⟩
def popV (x:St σ):Int:=(m.rdw x.s (x.c.r 7)).1
def pop (x:St σ):St σ:=⟨x.c.set 7 ((x.c.r 7+2)%65536),(m.rdw x.s (x.c.r 7)).2,x.n⟩
def toPC (x:St σ) (a:Int):St σ:={ x with c:={ x.c with PC:=a } }
def leave (x:St σ) (at':Int):St σ :=
 let y:=push m (push m x x.c.PC) (sign (push m x x.c.PC).c)
 ⟨{ y.c with May:=false,Waits:=false,PC:=(m.rdw y.s at').1 },(m.rdw y.s at').2,y.n⟩
def comeBack (x:St σ):St σ :=
 let n:=popV m x
 let y:=pop m x
 let z:=pop m y
 ⟨{ z.c with PC:=popV m y,Z:=decide (n%2=1),N:=decide (n/2%2=1),C:=decide (n/4%2=1),V:=decide (n/8%2=1),May:=decide (n/16%2=1) },z.s,z.n⟩
def setR (x:St σ) (d v:Int):St σ:={ x with c:=x.c.set d v }
def signs (x:St σ) (n:Int) (c v:Bool):St σ:={ x with c:={ x.c with Z:=n == 0,N:=decide (32768<=n),C:=c,V:=v } }
def flN (k:Nat) (a b:Int):Int:=if k=7 \/ k=15 then M.addN a b else if k=8 \/ k=14 then M.subN a b else if k=9 then bits .and .u16 a b else if k=10 then bits .or .u16 a b else if k=11 then bits .xor .u16 a b else M.mulN a b
def flC (k:Nat) (a b:Int):Bool:=if k=7 \/ k=15 then M.addC a b else if k=8 \/ k=14 then M.subC a b else if k=9 \/ k=10 \/ k=11 then false else M.mulC a b
def flV (k:Nat) (a b:Int):Bool:=if k=7 \/ k=15 then M.addV a b else if k=8 \/ k=14 then M.subV a b else false
def reckon (x:St σ) (k:Nat) (a b:Int):St σ:=signs x (flN k a b) (flC k a b) (flV k a b)
def jump (x:St σ) (w:Int):St σ:=⟨{ x.c with PC:=w },x.s,x.n+1⟩
def both (x:St σ) (k:Nat) (d s:Int):St σ:=setR (reckon x k (x.c.r d) (x.c.r s)) d (flN k (x.c.r d) (x.c.r s))
def shift (x:St σ) (d n:Int) (o:Bool):St σ:=setR (signs x n o false) d n
def act (x:St σ) (k:Nat) (d s n w:Int):St σ :=
 match k with
 | 1=>setR x d (x.c.r s)
 | 2=>setR x d w
 | 3=>⟨x.c.set d (m.rdw x.s ((x.c.r s+n)%65536)).1,(m.rdw x.s ((x.c.r s+n)%65536)).2,x.n⟩
 | 4=>{ x with s:=m.wrw x.s ((x.c.r d+n)%65536) (x.c.r s) }
 | 5=>⟨x.c.set d (m.rd x.s ((x.c.r s+n)%65536)).1,(m.rd x.s ((x.c.r s+n)%65536)).2,x.n⟩
 | 6=>{ x with s:=m.wr x.s ((x.c.r d+n)%65536) (x.c.r s%256) }
 | 7=>both x 7 d s
 | 8=>both x 8 d s
 | 9=>both x 9 d s
 | 10=>both x 10 d s
 | 11=>both x 11 d s
 | 12=>shift x d (M.shlN (x.c.r d) n) (M.shlC (x.c.r d) n)
 | 13=>shift x d (M.shrN (x.c.r d) n) (M.shrC (x.c.r d) n)
 | 14=>reckon x 14 (x.c.r d) (x.c.r s)
 | 15=>setR (reckon x 15 (x.c.r d) (n%65536)) d (flN 15 (x.c.r d) (n%65536))
 | 16=>jump x w
 | 17=>if x.c.Z then jump x w else x
 | 18=>if x.c.N then jump x w else x
 | 19=>if x.c.C then jump x w else x
 | 20=>toPC (push m x x.c.PC) w
 | 21=>toPC (pop m x) (popV m x)
 | 22=>push m x (x.c.r s)
 | 23=>setR (pop m x) d (popV m x)
 | 24=>{ x with c:={ x.c with May:=true } }
 | 25=>{ x with c:={ x.c with May:=false } }
 | 26=>comeBack m x
 | 27=>{ x with c:={ x.c with Waits:=true } }
 | 28=>both x 28 d s
 | 29=>if x.c.Z then x else jump x w
 | 31=>leave m x 4
 | _=>x
def word1 (c:Cpu) (s:σ):Int:=(m.rdw s c.PC).1
def word2 (c:Cpu) (s:σ):Int:=if O.rLen (word1 m c s)=2 then (m.rdw (m.rdw s c.PC).2 ((c.PC+2)%65536)).1 else 0
def behind (c:Cpu) (s:σ):St σ :=
 ⟨{ c with PC:=(c.PC+2*O.rLen (word1 m c s))%65536 },if O.rLen (word1 m c s)=2 then (m.rdw (m.rdw s c.PC).2 ((c.PC+2)%65536)).2 else (m.rdw s c.PC).2,0⟩
def order (c:Cpu) (s:σ):St σ :=
 act m { behind m c s with n:=K.cyc (O.rk (word1 m c s)) } (O.rk (word1 m c s)) (O.rD (word1 m c s)) (O.rS (word1 m c s)) (O.rN (word1 m c s)) (O.rW (word1 m c s) (word2 m c s))
def step (c:Cpu) (s:σ) (rings:Bool):St σ :=
 if rings && c.May then { leave m ⟨c,s,0⟩ 2 with n:=6 }
 else if c.Waits then ⟨c,s,1⟩
 else order m c s
end
/-! ### what is in range stays in range -/
theorem Cpu.r_bd {c:Cpu} (h:c.ok) (i:Int):0<=c.r i/\c.r i<=65535:=by
 unfold Cpu.r
 by_cases hi:i.toNat<c.R.length
 ·rw [List.getD_eq_getElem?_getD,List.getElem?_eq_getElem hi]
  exact h.2.1 _ (List.getElem_mem hi)
 ·rw [List.getD_eq_getElem?_getD,List.getElem?_eq_none (by omega)];simp
theorem Cpu.ok_set {c:Cpu} (h:c.ok) (i x:Int) (h0:0<=x) (h1:x<=65535):(c.set i x).ok:=by
 refine ⟨by simp [Cpu.set,h.1],λy hy=>?_,h.2.2.1,h.2.2.2⟩
 rcases List.mem_or_eq_of_mem_set hy with hy|rfl
 ·exact h.2.1 y hy
 ·exact ⟨h0,h1⟩
theorem Cpu.r_set {c:Cpu} (h:c.ok) (i:Nat) (hi:i<8) (x:Int):(c.set i x).r i=x:=by
 unfold Cpu.r Cpu.set
 simp only [Int.toNat_natCast]
 rw [List.getD_eq_getElem?_getD,List.getElem?_set_self (by rw [h.1];exact hi)]
 rfl
theorem Cpu.ok_pc {c:Cpu} (h:c.ok) (x:Int) (h0:0<=x) (h1:x<=65535):Cpu.ok { c with PC:=x }:=⟨h.1,h.2.1,h0,h1⟩
theorem sign_bd (c:Cpu):0<=sign c/\sign c<=31:=by unfold sign;split <;> split <;> split <;> split <;> split <;> omega
def Mem.ok {σ:Type} (m:Mem σ) (J:σ->Prop):Prop:=(∀ s a,J s->0<=(m.rd s a).1/\(m.rd s a).1<=255/\J (m.rd s a).2) /\ ∀ s a b,J s->0<=b->b<=255->J (m.wr s a b)
end Go.Proofs.YtbennamieealbaaGreatDoor.C
namespace Go.Proofs.YtbennamieealbaaGreatDoor
open Go.ChangeShapes Go.WideShapes Go.ChangeAt Go.RowKit
structure Mv (B : Nat) (T T' : Nat -> Prop) (w w' : World) : Prop where
 below:Below B w w'
 block:∀ k,k<w.heap.size->¬ T k->w'.heap[k]? = w.heap[k]?
 fresh:∀ k,T' k->T k \/ w.heap.size<=k
section
variable {B : Nat} {T T' T'' : Nat -> Prop} {a b c w w' : World}
theorem Mv.size (h:Mv B T T' w w'):w.heap.size<=w'.heap.size:=h.below.size
theorem Mv.refl (B:Nat) (T:Nat->Prop) (w:World):Mv B T T w w:=⟨Below.refl _ _,λ_ _ _=>rfl,λ_ h=>Or.inl h⟩
theorem Mv.trans (h:Mv B T T' a b) (k:Mv B T' T'' b c):Mv B T T'' a c :=
 ⟨h.below.trans k.below,λi hi ht=>(k.block i (Nat.lt_of_lt_of_le hi h.size) (λht'=>by rcases h.fresh i ht' with x|x;exact ht x;omega)).trans (h.block i hi ht),
   λi hi=>by
    rcases k.fresh i hi with x|x
    ·exact h.fresh i x
    ·exact Or.inr (Nat.le_trans h.size x)⟩
theorem Mv.of_below (hB:B<=w.heap.size) (h:Below w.heap.size w w'):Mv B T T w w':=⟨h.mono hB,λk hk _=>h.block k hk,λ_ h=>Or.inl h⟩
theorem Mv.alloc (h:Mv B T T' w w') (hB:B<=w.heap.size) (o:Obj):Mv B T T' w (w'.alloc o) :=
 ⟨h.below.alloc (Nat.le_trans hB h.size) o,λk hk ht=>(Below.heap_alloc _ _ _ (Nat.lt_of_lt_of_le hk h.size)).trans (h.block k hk ht),h.fresh⟩
theorem Mv.drew (h:Mv B T T' w w'):Mv B T T' w w'.drew:=⟨h.below.drew,h.block,h.fresh⟩
theorem Mv.drewN (h:Mv B T T' w w') (n:Nat):Mv B T T' w (w'.drewN n):=⟨⟨h.below.os,h.below.tape,h.below.output,h.below.size,h.below.block⟩,h.block,h.fresh⟩
theorem Mv.setCell (h:Mv B T T' w w') {p:Addr} (hB:B<=p.block) (hp:T p.block \/ w.heap.size<=p.block) (u:Value):Mv B T T' w (w'.setCell p u) :=
 ⟨h.below.setCell hB u,λk hk ht=>(Below.heap_setCell _ _ _ _ (λe=>by subst e;rcases hp with x|x;exact ht x;omega)).trans (h.block k hk ht),h.fresh⟩
theorem Mv.cell (h:Mv B T T' w w') {k:Nat} (hk:k<w.heap.size) (ht:¬ T k) (o:Nat):w'.cell? ⟨k,o,none⟩=w.cell? ⟨k,o,none⟩:=World.cell?_of_block (w:=w) (h.block k hk ht)
theorem Mv.froz (h:Mv B T T' w w') {k:Nat} (hk:k<w.heap.size) (ht:¬ T k) (o:Nat):w'.frozen? ⟨k,o,none⟩=w.frozen? ⟨k,o,none⟩:=World.frozen?_of_block (w:=w) (h.block k hk ht)
theorem Mv.also (h:Mv B T T' w w') (p:Nat):Mv B (λk=>k=p \/ T k) (λk=>k=p \/ T' k) w w' :=
 ⟨h.below,λk hk ht=>h.block k hk (λx=>ht (Or.inr x)),λk hk=>by
   rcases hk with x|x
   ·exact Or.inl (Or.inl x)
   ·rcases h.fresh k x with y|y
    ·exact Or.inl (Or.inr y)
    ·exact Or.inr y⟩
end
theorem cutW {P:Program} {code:Code} {Q:Exit->Act->World->Prop} {a:Act} {w:World} (K:World->Prop) (h:K w) (k:∀ w',K w'->code.wp P Q a w'):code.wp P Q a w:=k w h
abbrev fw (n:Nat) (cs:Array Value × Array Value):Value:=.func (.func n) cs.1 cs.2
abbrev fv (n:Nat) (cs:Array Value):Value:=.func (.func n) #[] cs
def Tw {σ:Type} (T:σ->Nat->Prop) (w:World) (s:σ) (k:Nat):Prop:=T s k \/ ∃ cs fr,w.heap[k]? = some (.cells cs 66 fr)
structure RS {σ : Type} (m : C.Mem σ) (B : Nat) (nr nw : Nat) (cr cw : Array Value × Array Value) (I : World -> σ -> Prop) (T : σ -> Nat -> Prop) : Prop where
 lt:∀ {w s},I w s->∀ k,T s k->k<w.heap.size
 keep:∀ {w w' s},I w s->w.heap.size<=w'.heap.size->(∀ k,Tw T w s k->w'.heap[k]? = w.heap[k]?)->I w' s
 shapes:∀ {w s},I w s->shapesAt w
 gT:∀ {s},T s 2
 byte:∀ s a,0<=(m.rd s a).1/\(m.rd s a).1<=255
 frd:∀ s a,m.fuel s<=m.fuel (m.rd s a).2
 fwr:∀ s a b,m.fuel s<=m.fuel (m.wr s a b)+1
 big:∀ {w s},I w s->B<=w.heap.size
 read:∀ w s (a:Int),0<=a->a<=65535->I w s->Calls Tryz.prog 180 #[.agg #[fw nr cr,fw nw cw],.int .u16 a] w λe w'=>e = .returned (.int .u8 (m.rd s a).1)/\I w' (m.rd s a).2/\Mv B (Tw T w s) (Tw T w' (m.rd s a).2) w w'
 write:∀ w s (a b:Int),0<=a->a<=65535->0<=b->b<=255->1<=m.fuel s->I w s->Calls Tryz.prog 270 #[.agg #[fw nr cr,fw nw cw],.int .u16 a,.int .u8 b] w λe w'=>e = .returned (.tuple #[])/\I w' (m.wr s a b)/\Mv B (Tw T w s) (Tw T w' (m.wr s a b)) w w'
theorem Mv.weak {B:Nat} {T T' T'':Nat->Prop} {w w':World} (h:Mv B T T' w w') (hT:∀ k,T'' k->T' k \/ w.heap.size<=k):Mv B T T'' w w' :=
 ⟨h.below,h.block,λk hk=>(hT k hk).elim (h.fresh k) Or.inr⟩
section
variable {σ : Type} {T : σ -> Nat -> Prop} {w w' : World} {s : σ} {k : Nat}
theorem Tw.same (e:w'.heap[k]? = w.heap[k]?) (h:Tw T w' s k):Tw T w s k:=h.imp id (λ⟨cs,fr,x⟩=>⟨cs,fr,by rw [<- e];exact x⟩)
theorem Tw.of (h:¬ T s k) {cs:Array Value} {t:TypeId} {fr:Nat × Nat} (e:w.heap[k]? = some (.cells cs t fr)) (ht:t≠66):¬ Tw T w s k:=λhx=>hx.elim h (λ⟨cs',fr',x⟩=>by
 rw [e] at x
 simp only [Option.some.injEq,Obj.cells.injEq] at x
 exact ht x.2.1)
theorem Tw.set {a:Addr} {v:Value} (h:Tw T (w.setCell a v) s k):Tw T w s k:=h.imp id (λ⟨cs,fr,x⟩=>by
 simp only [World.setCell,Array.getElem?_modify] at x
 split at x
 ·revert x
  cases w.heap[k]? with
  | none=>intro x;cases x
  | some o =>
   cases o <;> intro x <;> simp at x <;> (obtain ⟨_,rfl,_⟩:=x;exact ⟨_,_,rfl⟩)
 ·exact ⟨cs,fr,x⟩)
theorem Tw.sets {b:Nat}:∀ {vs:List Value} {o:Nat} {w:World},Tw T (w.setCells b o vs) s k->Tw T w s k
 | [],o,w,h=>h
 | v::vs,o,w,h=>Tw.set (Tw.sets (vs:=vs) h)
theorem Tw.low (hb:Below w.heap.size w w') (h:Tw T w' s k):Tw T w s k \/ w.heap.size<=k:=by
 rcases Nat.lt_or_ge k w.heap.size with hk|hk
 ·exact Or.inl (h.same (hb.block k hk))
 ·exact Or.inr hk
theorem Tw.lt (hl:∀ k,T s k->k<w.heap.size) (h:Tw T w s k):k<w.heap.size:=h.elim (hl k) (λ⟨cs,fr,x⟩=>(Array.getElem?_eq_some_iff.1 x).1)
end
def cpuCells (c:C.Cpu):List Value:=c.R.map (Value.int .u16)++[.int .u16 c.PC,.bool c.Z,.bool c.N,.bool c.C,.bool c.V,.bool c.May,.bool c.Waits]
def pcells (c:C.Cpu) (fr fw:Value) (n:Int):Array Value:=(cpuCells c++[fr,fw,.int .i64 n]).toArray
abbrev cpuV (c:C.Cpu):Value:=.agg #[.int .u16 (c.r 0),.int .u16 (c.r 1),.int .u16 (c.r 2),.int .u16 (c.r 3),.int .u16 (c.r 4),.int .u16 (c.r 5),.int .u16 (c.r 6),.int .u16 (c.r 7),.int .u16 c.PC,.bool c.Z,.bool c.N,.bool c.C,.bool c.V,.bool c.May,.bool c.Waits]
theorem reg8 {l:List Int} (h:l.length=8):∃ a0 a1 a2 a3 a4 a5 a6 a7,l=[a0,a1,a2,a3,a4,a5,a6,a7]:=by
 match l,h with
 | [a0,a1,a2,a3,a4,a5,a6,a7],_=>exact ⟨a0,a1,a2,a3,a4,a5,a6,a7,rfl⟩
section
variable {σ : Type} {m : C.Mem σ} {B nr nw : Nat} {cr cw : Array Value × Array Value} {I : World -> σ -> Prop} {T : σ -> Nat -> Prop}
structure PI (B : Nat) (nr nw : Nat) (cr cw : Array Value × Array Value) (I : World -> σ -> Prop) (T : σ -> Nat -> Prop) (w : World) (p : Nat) (x : C.St σ) : Prop where
 inv:I w x.s
 own:¬ T x.s p
 big:B<=p
 blk:w.heap[p]? = some (.cells (pcells x.c (fw nr cr) (fw nw cw) x.n) 275 (0,0))
 ok:x.c.ok
def PM (B:Nat) (T:σ->Nat->Prop) (p:Nat) (s s':σ) (w w':World):Prop:=Mv B (λk=>k=p \/ Tw T w s k) (λk=>k=p \/ Tw T w' s' k) w w'
theorem PI.lt {w:World} {p:Nat} {x:C.St σ} (h:PI B nr nw cr cw I T w p x):p<w.heap.size:=(Array.getElem?_eq_some_iff.1 h.blk).1
theorem PI.ownW {w:World} {p:Nat} {x:C.St σ} (h:PI B nr nw cr cw I T w p x):¬ Tw T w x.s p:=Tw.of h.own h.blk (by decide)
theorem PI.frozen {w:World} {p:Nat} {x:C.St σ} (h:PI B nr nw cr cw I T w p x) (i:Nat):w.frozen? ⟨p,i,none⟩=false:=Lib.frozen_of_heap h.blk i
theorem zhr {c:C.Cpu} (hc:c.R.length=8) (fr fw:Value) (n:Int) :
 (∀ i:Nat,i<8->(pcells c fr fw n)[i]? = some (.int .u16 (c.r i)))/\(pcells c fr fw n)[8]? = some (.int .u16 c.PC)/\(pcells c fr fw n)[9]? = some (.bool c.Z)/\(pcells c fr fw n)[10]? = some (.bool c.N)/\(pcells c fr fw n)[11]? = some (.bool c.C) /\
  (pcells c fr fw n)[12]? = some (.bool c.V)/\(pcells c fr fw n)[13]? = some (.bool c.May)/\(pcells c fr fw n)[14]? = some (.bool c.Waits)/\(pcells c fr fw n)[15]? = some fr/\(pcells c fr fw n)[16]? = some fw/\(pcells c fr fw n)[17]? = some (.int .i64 n):=by
 obtain ⟨a0,a1,a2,a3,a4,a5,a6,a7,h⟩:=reg8 hc
 unfold pcells cpuCells C.Cpu.r
 rw [h]
 refine ⟨λi hi=>?_,rfl,rfl,rfl,rfl,rfl,rfl,rfl,rfl,rfl,rfl⟩
 have:i=0 \/ i=1 \/ i=2 \/ i=3 \/ i=4 \/ i=5 \/ i=6 \/ i=7:=by omega
 rcases this with rfl|rfl|rfl|rfl|rfl|rfl|rfl|rfl <;> rfl
theorem PI.reg {w:World} {p:Nat} {x:C.St σ} (h:PI B nr nw cr cw I T w p x) (i:Nat) (hi:i<8):w.cell? ⟨p,i,none⟩=some (.int .u16 (x.c.r i)):=by
 rw [Lib.cell_of_heap h.blk i];exact (zhr h.ok.1 _ _ _).1 i hi
theorem PI.cells {w:World} {p:Nat} {x:C.St σ} (h:PI B nr nw cr cw I T w p x) :
 w.cell? ⟨p,8,none⟩=some (.int .u16 x.c.PC)/\w.cell? ⟨p,9,none⟩=some (.bool x.c.Z)/\w.cell? ⟨p,10,none⟩=some (.bool x.c.N)/\w.cell? ⟨p,11,none⟩=some (.bool x.c.C)/\w.cell? ⟨p,12,none⟩=some (.bool x.c.V) /\
  w.cell? ⟨p,13,none⟩=some (.bool x.c.May)/\w.cell? ⟨p,14,none⟩=some (.bool x.c.Waits)/\w.cell? ⟨p,15,none⟩=some (fw nr cr)/\w.cell? ⟨p,16,none⟩=some (fw nw cw)/\w.cell? ⟨p,17,none⟩=some (.int .i64 x.n):=by
 have e:=λi=>Lib.cell_of_heap h.blk i
 obtain ⟨_,h8,h9,h10,h11,h12,h13,h14,h15,h16,h17⟩:=zhr h.ok.1 (fw nr cr) (fw nw cw) x.n
 exact ⟨(e 8).trans h8,(e 9).trans h9,(e 10).trans h10,(e 11).trans h11,(e 12).trans h12,(e 13).trans h13,(e 14).trans h14,(e 15).trans h15,(e 16).trans h16,(e 17).trans h17⟩
theorem PI.regs {w:World} {p:Nat} {x:C.St σ} (h:PI B nr nw cr cw I T w p x) :
 w.cell? ⟨p,0,none⟩=some (.int .u16 (x.c.r 0))/\w.cell? ⟨p,1,none⟩=some (.int .u16 (x.c.r 1))/\w.cell? ⟨p,2,none⟩=some (.int .u16 (x.c.r 2))/\w.cell? ⟨p,3,none⟩=some (.int .u16 (x.c.r 3)) /\
  w.cell? ⟨p,4,none⟩=some (.int .u16 (x.c.r 4))/\w.cell? ⟨p,5,none⟩=some (.int .u16 (x.c.r 5))/\w.cell? ⟨p,6,none⟩=some (.int .u16 (x.c.r 6))/\w.cell? ⟨p,7,none⟩=some (.int .u16 (x.c.r 7)) :=
 ⟨h.reg 0 (by omega),h.reg 1 (by omega),h.reg 2 (by omega),h.reg 3 (by omega),h.reg 4 (by omega),h.reg 5 (by omega),h.reg 6 (by omega),h.reg 7 (by omega)⟩
theorem zbR {w:World} {b i:Nat} {cs:Array Value} {t:TypeId} {fr:Nat × Nat} (h:w.heap[b]? = some (.cells cs t fr)) (v:Value):(w.setCell ⟨b,i,none⟩ v).heap[b]? = some (.cells (cs.setIfInBounds i v) t fr):=by
 simp [World.setCell,Array.getElem?_modify,h]
theorem zbe (w:World) (a:Addr) (v:Value):(w.setCell a v).heap.size=w.heap.size:=by simp [World.setCell]
theorem PI.put (R:RS m B nr nw cr cw I T) {w:World} {p:Nat} {x:C.St σ} (h:PI B nr nw cr cw I T w p x) (i:Nat) (v:Value) (c':C.Cpu) (n':Int) (hok:c'.ok) (hc:(pcells x.c (fw nr cr) (fw nw cw) x.n).setIfInBounds i v=pcells c' (fw nr cr) (fw nw cw) n') :
 PI B nr nw cr cw I T (w.setCell ⟨p,i,none⟩ v) p ⟨c',x.s,n'⟩ :=
 ⟨R.keep h.inv (by rw [zbe];exact Nat.le_refl _) (λk hk=>Below.heap_setCell _ _ _ _ (λe=>h.ownW (by have e':k=p:=e;rw [<- e'];exact hk))),h.own,h.big,by rw [zbR h.blk,hc],hok⟩
theorem zjB {c:C.Cpu} (hc:c.R.length=8) (fr fw:Value) (n:Int) (i:Nat) (hi:i<8) (x:Int):(pcells c fr fw n).setIfInBounds i (.int .u16 x)=pcells (c.set i x) fr fw n:=by
 obtain ⟨a0,a1,a2,a3,a4,a5,a6,a7,h⟩:=reg8 hc
 unfold pcells cpuCells C.Cpu.set
 rw [h]
 have:i=0 \/ i=1 \/ i=2 \/ i=3 \/ i=4 \/ i=5 \/ i=6 \/ i=7:=by omega
 rcases this with rfl|rfl|rfl|rfl|rfl|rfl|rfl|rfl <;> rfl
theorem za4 {c:C.Cpu} (hc:c.R.length=8) (fr fw:Value) (n:Int) :
 (∀ x,(pcells c fr fw n).setIfInBounds 8 (.int .u16 x)=pcells { c with PC:=x } fr fw n)/\(∀ x,(pcells c fr fw n).setIfInBounds 9 (.bool x)=pcells { c with Z:=x } fr fw n)/\(∀ x,(pcells c fr fw n).setIfInBounds 10 (.bool x)=pcells { c with N:=x } fr fw n) /\
 (∀ x,(pcells c fr fw n).setIfInBounds 11 (.bool x)=pcells { c with C:=x } fr fw n)/\(∀ x,(pcells c fr fw n).setIfInBounds 12 (.bool x)=pcells { c with V:=x } fr fw n)/\(∀ x,(pcells c fr fw n).setIfInBounds 13 (.bool x)=pcells { c with May:=x } fr fw n) /\
 (∀ x,(pcells c fr fw n).setIfInBounds 14 (.bool x)=pcells { c with Waits:=x } fr fw n)/\(∀ x,(pcells c fr fw n).setIfInBounds 17 (.int .i64 x)=pcells c fr fw x):=by
 obtain ⟨a0,a1,a2,a3,a4,a5,a6,a7,h⟩:=reg8 hc
 unfold pcells cpuCells
 rw [h]
 exact ⟨λ_=>rfl,λ_=>rfl,λ_=>rfl,λ_=>rfl,λ_=>rfl,λ_=>rfl,λ_=>rfl,λ_=>rfl⟩
variable {w : World} {p : Nat} {x : C.St σ}
theorem PI.putR (R:RS m B nr nw cr cw I T) (h:PI B nr nw cr cw I T w p x) (i:Nat) (hi:i<8) (v:Int) (h0:0<=v) (h1:v<=65535):PI B nr nw cr cw I T (w.setCell ⟨p,i,none⟩ (.int .u16 v)) p ⟨x.c.set i v,x.s,x.n⟩ :=
 h.put R i _ _ _ (C.Cpu.ok_set h.ok _ _ h0 h1) (zjB h.ok.1 _ _ _ i hi v)
theorem PI.putPC (R:RS m B nr nw cr cw I T) (h:PI B nr nw cr cw I T w p x) (v:Int) (h0:0<=v) (h1:v<=65535):PI B nr nw cr cw I T (w.setCell ⟨p,8,none⟩ (.int .u16 v)) p ⟨{ x.c with PC:=v },x.s,x.n⟩ :=
 h.put R 8 _ _ _ (C.Cpu.ok_pc h.ok v h0 h1) ((za4 h.ok.1 _ _ _).1 v)
theorem PI.putZ (R:RS m B nr nw cr cw I T) (h:PI B nr nw cr cw I T w p x) (v:Bool):PI B nr nw cr cw I T (w.setCell ⟨p,9,none⟩ (.bool v)) p ⟨{ x.c with Z:=v },x.s,x.n⟩:=h.put R 9 _ _ _ h.ok ((za4 h.ok.1 _ _ _).2.1 v)
theorem PI.putN (R:RS m B nr nw cr cw I T) (h:PI B nr nw cr cw I T w p x) (v:Bool):PI B nr nw cr cw I T (w.setCell ⟨p,10,none⟩ (.bool v)) p ⟨{ x.c with N:=v },x.s,x.n⟩:=h.put R 10 _ _ _ h.ok ((za4 h.ok.1 _ _ _).2.2.1 v)
theorem PI.putC (R:RS m B nr nw cr cw I T) (h:PI B nr nw cr cw I T w p x) (v:Bool):PI B nr nw cr cw I T (w.setCell ⟨p,11,none⟩ (.bool v)) p ⟨{ x.c with C:=v },x.s,x.n⟩:=h.put R 11 _ _ _ h.ok ((za4 h.ok.1 _ _ _).2.2.2.1 v)
theorem PI.putV (R:RS m B nr nw cr cw I T) (h:PI B nr nw cr cw I T w p x) (v:Bool):PI B nr nw cr cw I T (w.setCell ⟨p,12,none⟩ (.bool v)) p ⟨{ x.c with V:=v },x.s,x.n⟩:=h.put R 12 _ _ _ h.ok ((za4 h.ok.1 _ _ _).2.2.2.2.1 v)
theorem PI.putMay (R:RS m B nr nw cr cw I T) (h:PI B nr nw cr cw I T w p x) (v:Bool):PI B nr nw cr cw I T (w.setCell ⟨p,13,none⟩ (.bool v)) p ⟨{ x.c with May:=v },x.s,x.n⟩:=h.put R 13 _ _ _ h.ok ((za4 h.ok.1 _ _ _).2.2.2.2.2.1 v)
theorem PI.putWaits (R:RS m B nr nw cr cw I T) (h:PI B nr nw cr cw I T w p x) (v:Bool):PI B nr nw cr cw I T (w.setCell ⟨p,14,none⟩ (.bool v)) p ⟨{ x.c with Waits:=v },x.s,x.n⟩:=h.put R 14 _ _ _ h.ok ((za4 h.ok.1 _ _ _).2.2.2.2.2.2.1 v)
theorem PI.putCyc (R:RS m B nr nw cr cw I T) (h:PI B nr nw cr cw I T w p x) (v:Int):PI B nr nw cr cw I T (w.setCell ⟨p,17,none⟩ (.int .i64 v)) p ⟨x.c,x.s,v⟩:=h.put R 17 _ _ _ h.ok ((za4 h.ok.1 _ _ _).2.2.2.2.2.2.2 v)
theorem PI.kept (R:RS m B nr nw cr cw I T) (h:PI B nr nw cr cw I T w p x) {w':World} (hb:Below w.heap.size w w'):PI B nr nw cr cw I T w' p x :=
 ⟨R.keep h.inv hb.size (λk hk=>hb.block k (hk.lt (R.lt h.inv))),h.own,h.big,(hb.block p h.lt).trans h.blk,h.ok⟩
theorem PI.moved (h:PI B nr nw cr cw I T w p x) {w':World} {s':σ} (hI:I w' s') (hm:Mv B (Tw T w x.s) (Tw T w' s') w w'):PI B nr nw cr cw I T w' p ⟨x.c,s',x.n⟩ :=
 ⟨hI,λht=>by rcases hm.fresh p (Or.inl ht) with y|y;exact h.ownW y;have:=h.lt;omega,h.big,(hm.block p h.lt h.ownW).trans h.blk,h.ok⟩
theorem PI.same (R:RS m B nr nw cr cw I T) (h:PI B nr nw cr cw I T w p x) {w':World} (e:w'.heap=w.heap):PI B nr nw cr cw I T w' p x :=
 ⟨R.keep h.inv (by rw [e];exact Nat.le_refl _) (λk _=>by rw [e]),h.own,h.big,by rw [e];exact h.blk,h.ok⟩
theorem PI.movedS (R:RS m B nr nw cr cw I T) (h:PI B nr nw cr cw I T w p x) {w0 w1:World} {s':σ} (hI:I w1 s') (hm:Mv B (Tw T w0 x.s) (Tw T w1 s') w0 w1) (e:w0.heap=w.heap):PI B nr nw cr cw I T w1 p ⟨x.c,s',x.n⟩:=(h.same R e).moved hI hm
theorem PI.invS (R:RS m B nr nw cr cw I T) (h:PI B nr nw cr cw I T w p x) {w':World} (e:w'.heap=w.heap):I w' x.s:=(h.same R e).inv
theorem PI.after (h:PI B nr nw cr cw I T w p x) {w0 w1:World} {T':Nat->Prop} (hm:Mv B (Tw T w0 x.s) T' w0 w1) (e:w0.heap=w.heap):(∀ i,w1.cell? ⟨p,i,none⟩=w.cell? ⟨p,i,none⟩)/\(∀ i,w1.frozen? ⟨p,i,none⟩=false)/\p<w1.heap.size:=by
 have hb:w1.heap[p]? = w.heap[p]?:=by rw [hm.block p (by rw [e];exact h.lt) (λy=>h.ownW (y.same (by rw [e]))),e]
 exact ⟨λi=>World.cell?_of_block (w:=w) hb,λi=>Lib.frozen_of_heap (hb.trans h.blk) i,Nat.lt_of_lt_of_le (by rw [e];exact h.lt) hm.size⟩
theorem PI.hB (R:RS m B nr nw cr cw I T) (h:PI B nr nw cr cw I T w p x):B<=w.heap.size:=R.big h.inv
theorem PM.refl (B:Nat) (T:σ->Nat->Prop) (p:Nat) (s:σ) (w:World):PM B T p s s w w:=Mv.refl _ _ _
theorem PM.set {s s':σ} {w w':World} (h:PM B T p s s' w w') (hB:B<=p) (i:Nat) (v:Value):PM B T p s s' w (w'.setCell ⟨p,i,none⟩ v):=(Mv.setCell h hB (Or.inl (Or.inl rfl)) v).weak (λk hk=>Or.inl (hk.imp id Tw.set))
theorem PM.trans {s s' s'':σ} {a b c:World} (h:PM B T p s s' a b) (k:PM B T p s' s'' b c):PM B T p s s'' a c:=Mv.trans h k
theorem PM.moved {s s' s'':σ} {a b c:World} (h:PM B T p s s' a b) (k:Mv B (Tw T b s') (Tw T c s'') b c):PM B T p s s'' a c:=Mv.trans h (k.also p)
theorem PM.kept {s s':σ} {a b c:World} (h:PM B T p s s' a b) (hB:B<=b.heap.size) (k:Below b.heap.size b c):PM B T p s s' a c:=(Mv.trans h (Mv.of_below hB k)).weak (λi hi=>hi.elim (λe=>Or.inl (Or.inl e)) (λy=>(y.low k).elim (λz=>Or.inl (Or.inr z)) (λz=>Or.inr (Nat.le_trans (Mv.size h) z))))
theorem PM.drew {s s':σ} {w w':World} (h:PM B T p s s' w w'):PM B T p s s' w w'.drew:=Mv.drew h
theorem PM.alloc {s s':σ} {w w':World} (h:PM B T p s s' w w') (hB:B<=w.heap.size) (o:Obj):PM B T p s s' w (w'.alloc o):=(Mv.alloc h hB o).weak (λi hi=>hi.elim (λe=>Or.inl (Or.inl e)) (λy=>(y.low (stA (st0 w') o)).elim (λz=>Or.inl (Or.inr z)) (λz=>Or.inr (Nat.le_trans (Mv.size h) z))))
theorem PM.cell {s s':σ} {w w':World} (h:PM B T p s s' w w') {k:Nat} (hk:k<w.heap.size) (hp:k≠p) (ht:¬ Tw T w s k) (o:Nat):w'.cell? ⟨k,o,none⟩=w.cell? ⟨k,o,none⟩:=Mv.cell h hk (λe=>e.elim hp ht) o
theorem PM.froz {s s':σ} {w w':World} (h:PM B T p s s' w w') {k:Nat} (hk:k<w.heap.size) (hp:k≠p) (ht:¬ Tw T w s k) (o:Nat):w'.frozen? ⟨k,o,none⟩=w.frozen? ⟨k,o,none⟩:=Mv.froz h hk (λe=>e.elim hp ht) o
end
theorem ret_i {k:IntKind} {a a':Int} (h:a=a'):Ending.returned (.int k a) = .returned (.int k a'):=by rw [h]
theorem zry {k:IntKind} {a a':Int} {b b':Bool} (h:a=a') (h1:b=b'):Ending.returned (.tuple #[.int k a,.bool b]) = .returned (.tuple #[.int k a',.bool b']):=by rw [h,h1]
theorem zkP {k:IntKind} {a a':Int} {b b' c c':Bool} (h:a=a') (h1:b=b') (h2:c=c'):Ending.returned (.tuple #[.int k a,.bool b,.bool c]) = .returned (.tuple #[.int k a',.bool b',.bool c']):=by rw [h,h1,h2]
theorem zc4 {k l:IntKind} {a a' c c':Int} {b b':Bool} (h:a=a') (h1:b=b') (h2:c=c'):Ending.returned (.tuple #[.int k a,.bool b,.int l c]) = .returned (.tuple #[.int k a',.bool b',.int l c']):=by rw [h,h1,h2]
theorem zkQ (a b:Int) (w:World) (ha:0<=a) (ha':a<=65535) (hb:0<=b) (hb':b<=65535) :
 Calls Tryz.prog 335 #[.int .u16 a,.int .u16 b] w λe w'=>e = .returned (.tuple #[.int .u16 (M.addN a b),.bool (M.addC a b),.bool (M.addV a b)])/\w'=w:=by
 go_enter Tryz.func335,Tryz.ntmps335
 go_wp2
 go_ret3
 exact ⟨zkP (IntKind.wrap_u16 _) (M.carry_add a b ha ha' hb hb') (M.over_add a b ha ha' hb hb'),rfl⟩
theorem zkR (a b:Int) (w:World) (ha:0<=a) (ha':a<=65535) (hb:0<=b) (hb':b<=65535) :
 Calls Tryz.prog 336 #[.int .u16 a,.int .u16 b] w λe w'=>e = .returned (.tuple #[.int .u16 (M.subN a b),.bool (M.subC a b),.bool (M.subV a b)])/\w'=w:=by
 go_enter Tryz.func336,Tryz.ntmps336
 go_wp2
 go_ret3
 exact ⟨zkP (IntKind.wrap_u16 _) rfl (M.over_sub a b ha ha' hb hb'),rfl⟩
theorem zp0 (a b:Int) (w:World) (ha:0<=a) (ha':a<=65535) (hb:0<=b) (hb':b<=65535) :
 Calls Tryz.prog 342 #[.int .u16 a,.int .u16 b] w λe w'=>e = .returned (.tuple #[.int .u16 (M.mulN a b),.bool (M.mulC a b)])/\w'=w:=by
 have hm:=M.mul_bd a b ha ha' hb hb'
 go_enter Tryz.func342,Tryz.ntmps342
 go_wp2
 go_ret2
 exact ⟨zry (IntKind.wrap_u16 _) (M.mul_high _ hm.1),rfl⟩
theorem zkS (a:Int) (w:World) (ha:0<=a) (ha':a<=65535) :
 Calls Tryz.prog 159 #[.int .u16 a] w λe w'=>e = .returned (.tuple #[.int .u8 (a/256),.int .u8 (a%256)])/\w'=w:=by
 go_enter Tryz.func159,Tryz.ntmps159
 go_wp2
 go_ret2
 exact ⟨rfl,rfl⟩
theorem zrz (a b:Int) (w:World) (ha:0<=a) (ha':a<=255) (hb:0<=b) (hb':b<=255) :
 Calls Tryz.prog 181 #[.int .u8 a,.int .u8 b] w λe w'=>e = .returned (.int .u16 (a*256+b))/\w'=w:=by
 go_enter Tryz.func181,Tryz.ntmps181
 go_wp2
 go_ret
 exact ⟨ret_i (M.joined a b ha ha' hb hb'),rfl⟩
theorem ze3 (a n:Int) (w:World) (ha:0<=a) (ha':a<=65535) (hn:0<=n) (hn':n<=15) :
 Calls Tryz.prog 318 #[.int .u16 a,.int .i64 n] w λe w'=>e = .returned (.bool (M.hasB a n))/\w'=w:=by
 go_enter Tryz.func318,Tryz.ntmps318
 go_wp2
 go_ret
 exact ⟨ret_b (M.has_of a n ha ha'),rfl⟩
theorem zf8 (n:Int) (w:World) (h:0<=n) (h':n<=15) :
 Calls Tryz.prog 317 #[.int .i64 n] w λe w'=>e = .returned (.bool true)/\w'=w:=by
 go_enter Tryz.func317,Tryz.ntmps317
 go_wp2
 go_ret
 exact ⟨ret_b (by simp;omega),rfl⟩
theorem zp1 (a:Int) (w:World) :
 Calls Tryz.prog 273 #[.int .u16 a,.int .i64 0] w λe w'=>e = .returned (.tuple #[.int .u16 a,.bool false,.int .i64 0]) /\ ∃ k,w'=w.drewN k:=by
 go_enter Tryz.func273,Tryz.ntmps273
 go_wp2_with (go_at_call 317;refine (zf8 _ _ (by omega) (by omega)).mono ?_;rintro e w' ⟨rfl,rfl⟩)
 go_ret3
 exact ⟨rfl,0,rfl⟩
theorem znJ (a n:Int) (w:World) (ha:0<=a) (ha':a<=65535) (hn:1<=n) (hn':n<=15) :
 Calls Tryz.prog 273 #[.int .u16 a,.int .i64 n] w λe w'=>e = .returned (.tuple #[.int .u16 (M.shlN a n),.bool (M.hasB a (16-n)),.int .i64 0]) /\ ∃ k,w'=w.drewN k:=by
 have h0:(n == 0)=false:=by simp;omega
 go_enter Tryz.func273,Tryz.ntmps273
 go_wp2_with (go_at_call 317;refine (zf8 _ _ (by omega) (by omega)).mono ?_;rintro e w' ⟨rfl,rfl⟩)
 go_quiet ((go_at_call 318;exact Calls.quiet_of_same (ze3 _ _ _ (by omega) (by omega) (by omega) (by omega))))
 go_wp2
 go_ret3
 exact ⟨zc4 rfl rfl rfl,_,rfl⟩
theorem zjC (a:Int) (ha:0<=a) (ha':a<=65535):M.shlN a 0=a:=by unfold M.shlN;simp;omega
theorem zih (a n:Int) (hn:1<=n):M.shlC a n=M.hasB a (16-n):=by unfold M.shlC M.hasB;simp [hn]
theorem zjD (a:Int):M.shrN a 0=a:=by unfold M.shrN;simp
theorem zii (a n:Int) (hn:1<=n):M.shrC a n=M.hasB a (n-1):=by unfold M.shrC M.hasB;simp [hn]
theorem zp2 (a n:Int) (w:World) (ha:0<=a) (ha':a<=65535) (hn:0<=n) (hn':n<=15) :
 Calls Tryz.prog 273 #[.int .u16 a,.int .i64 n] w λe w'=>e = .returned (.tuple #[.int .u16 (M.shlN a n),.bool (M.shlC a n),.int .i64 0]) /\ ∃ k,w'=w.drewN k:=by
 by_cases h:n=0
 ·subst h
  exact (zp1 a w).mono λ_ _ h=>⟨h.1.trans (zc4 (zjC a ha ha').symm (by simp [M.shlC]) rfl),h.2⟩
 ·exact (znJ a n w ha ha' (by omega) hn').mono λ_ _ h=>⟨h.1.trans (zc4 rfl (zih a n (by omega)).symm rfl),h.2⟩
theorem zp3 (a:Int) (w:World) :
 Calls Tryz.prog 274 #[.int .u16 a,.int .i64 0] w λe w'=>e = .returned (.tuple #[.int .u16 a,.bool false,.int .i64 0]) /\ ∃ k,w'=w.drewN k:=by
 go_enter Tryz.func274,Tryz.ntmps274
 go_wp2_with (go_at_call 317;refine (zf8 _ _ (by omega) (by omega)).mono ?_;rintro e w' ⟨rfl,rfl⟩)
 go_ret3
 exact ⟨rfl,0,rfl⟩
theorem znK (a n:Int) (w:World) (ha:0<=a) (ha':a<=65535) (hn:1<=n) (hn':n<=15) :
 Calls Tryz.prog 274 #[.int .u16 a,.int .i64 n] w λe w'=>e = .returned (.tuple #[.int .u16 (M.shrN a n),.bool (M.hasB a (n-1)),.int .i64 0]) /\ ∃ k,w'=w.drewN k:=by
 have h0:(n == 0)=false:=by simp;omega
 go_enter Tryz.func274,Tryz.ntmps274
 go_wp2_with (go_at_call 317;refine (zf8 _ _ (by omega) (by omega)).mono ?_;rintro e w' ⟨rfl,rfl⟩)
 go_quiet ((go_at_call 318;exact Calls.quiet_of_same (ze3 _ _ _ (by omega) (by omega) (by omega) (by omega))))
 go_wp2
 go_ret3
 exact ⟨zc4 rfl rfl rfl,_,rfl⟩
theorem zp4 (a n:Int) (w:World) (ha:0<=a) (ha':a<=65535) (hn:0<=n) (hn':n<=15) :
 Calls Tryz.prog 274 #[.int .u16 a,.int .i64 n] w λe w'=>e = .returned (.tuple #[.int .u16 (M.shrN a n),.bool (M.shrC a n),.int .i64 0]) /\ ∃ k,w'=w.drewN k:=by
 by_cases h:n=0
 ·subst h
  exact (zp3 a w).mono λ_ _ h=>⟨h.1.trans (zc4 (zjD a).symm (by simp [M.shrC]) rfl),h.2⟩
 ·exact (znK a n w ha ha' (by omega) hn').mono λ_ _ h=>⟨h.1.trans (zc4 rfl (zii a n (by omega)).symm rfl),h.2⟩
end Go.Proofs.YtbennamieealbaaGreatDoor
