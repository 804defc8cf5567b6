/-
  Parts of a proof, joined.
-/
import Derived.Test.YtbhpfkjfijdmaaaGreatDoorZy33
import Derived.Test.YtbhpfkjfijdmaaaGreatDoorZy04
import Derived.Test.YtbhpfkjfijdmaaaGreatDoorZy13
import Derived.Test.YtbhpfkjfijdmaaaGreatDoorZy12
import Derived.Test.YtbhpfkjfijdmaaaGreatDoorZy15
import Derived.Test.YtbhpfkjfijdmaaaGreatDoorZy28
import Derived.Test.YtbhpfkjfijdmaaaGreatDoorZy31
set_option linter.unusedVariables false
set_option maxRecDepth 100000
set_option maxHeartbeats 3200000
namespace Go.Proofs.YtbhpfkjfijdmaaaGreatDoor.C
section
variable {σ τ : Type} {m : Mem σ} {m' : Mem τ} {Q : σ -> τ -> Prop}
structure Sim (m : Mem σ) (m' : Mem τ) (Q : σ -> τ -> Prop) : Prop where
 rd:∀ s t a,Q s t->(m.rd s a).1=(m'.rd t a).1/\Q (m.rd s a).2 (m'.rd t a).2
 wr:∀ s t a b,Q s t->Q (m.wr s a b) (m'.wr t a b)
structure SQ (Q : σ -> τ -> Prop) (x : St σ) (y : St τ) : Prop where
 c:x.c=y.c
 n:x.n=y.n
 s:Q x.s y.s
theorem Sim.rdw (h:Sim m m' Q) {s:σ} {t:τ} (hq:Q s t) (a:Int):(m.rdw s a).1=(m'.rdw t a).1/\Q (m.rdw s a).2 (m'.rdw t a).2:=by
 obtain ⟨e1,q1⟩:=h.rd s t a hq
 obtain ⟨e2,q2⟩:=h.rd _ _ ((a+1) % 65536) q1
 exact ⟨by show (m.rd s a).1 * 256+_=(m'.rd t a).1 * 256+_;rw [e1,e2],q2⟩
theorem Sim.wrw (h:Sim m m' Q) {s:σ} {t:τ} (hq:Q s t) (a n:Int):Q (m.wrw s a n) (m'.wrw t a n):=h.wr _ _ _ _ (h.wr _ _ _ _ hq)
theorem Sim.push (h:Sim m m' Q) {c:Cpu} {s:σ} {t:τ} {k:Int} (hq:Q s t) (n:Int):SQ Q (push m ⟨c,s,k⟩ n) (push m' ⟨c,t,k⟩ n):=⟨rfl,rfl,h.wrw hq _ _⟩
theorem Sim.popV (h:Sim m m' Q) {c:Cpu} {s:σ} {t:τ} {k:Int} (hq:Q s t):popV m ⟨c,s,k⟩=popV m' ⟨c,t,k⟩:=(h.rdw hq _).1
theorem Sim.pop (h:Sim m m' Q) {c:Cpu} {s:σ} {t:τ} {k:Int} (hq:Q s t):SQ Q (pop m ⟨c,s,k⟩) (pop m' ⟨c,t,k⟩):=⟨rfl,rfl,(h.rdw hq _).2⟩
theorem Sim.leave (h:Sim m m' Q) {x:St σ} {y:St τ} (hx:SQ Q x y) (a:Int):SQ Q (leave m x a) (leave m' y a):=by
 obtain ⟨c,s,k⟩:=x
 obtain ⟨c',t,k'⟩:=y
 obtain ⟨rfl,rfl,hq⟩:=hx
 dsimp only at hq
 have h1:=h.push (c:=c) (k:=k) hq c.PC
 have h2:SQ Q (C.push m (C.push m ⟨c,s,k⟩ c.PC) (sign (C.push m ⟨c,s,k⟩ c.PC).c)) (C.push m' (C.push m' ⟨c,t,k⟩ c.PC) (sign (C.push m' ⟨c,t,k⟩ c.PC).c)):=h.push (c:=(C.push m ⟨c,s,k⟩ c.PC).c) (k:=k) h1.s _
 obtain ⟨e1,q1⟩:=h.rdw h2.s a
 refine ⟨?_,rfl,q1⟩
 unfold C.leave
 dsimp only
 rw [h2.c,e1]
theorem Sim.comeBack (h:Sim m m' Q) {x:St σ} {y:St τ} (hx:SQ Q x y):SQ Q (comeBack m x) (comeBack m' y):=by
 obtain ⟨c,s,k⟩:=x
 obtain ⟨c',t,k'⟩:=y
 obtain ⟨rfl,rfl,hq⟩:=hx
 dsimp only at hq
 have e1:=h.popV (c:=c) (k:=k) hq
 have h1:=h.pop (c:=c) (k:=k) hq
 have e2:C.popV m (C.pop m ⟨c,s,k⟩)=C.popV m' (C.pop m' ⟨c,t,k⟩):=h.popV (c:=(C.pop m ⟨c,s,k⟩).c) (k:=k) h1.s
 have h2:SQ Q (C.pop m (C.pop m ⟨c,s,k⟩)) (C.pop m' (C.pop m' ⟨c,t,k⟩)):=h.pop (c:=(C.pop m ⟨c,s,k⟩).c) (k:=k) h1.s
 refine ⟨?_,rfl,h2.s⟩
 unfold C.comeBack
 dsimp only
 rw [e1,e2,h2.c]
theorem Sim.act (h:Sim m m' Q) {x:St σ} {y:St τ} (hx:SQ Q x y) (k:Nat) (d s n w:Int):SQ Q (act m x k d s n w) (act m' y k d s n w):=by
 have hl:=h.leave hx 4
 have hcb:=h.comeBack hx
 obtain ⟨c,u,j⟩:=x
 obtain ⟨c',t,j'⟩:=y
 obtain ⟨rfl,rfl,hq⟩:=hx
 dsimp only at hq
 have u0:∀ (c':Cpu) (j':Int),SQ Q ⟨c',u,j'⟩ ⟨c',t,j'⟩:=fun _ _=>⟨rfl,rfl,hq⟩
 have r2:∀ a,SQ Q ⟨c.set d (m.rdw u a).1,(m.rdw u a).2,j⟩ ⟨c.set d (m'.rdw t a).1,(m'.rdw t a).2,j⟩:=fun a=>⟨by dsimp only;rw [(h.rdw hq a).1],rfl,(h.rdw hq a).2⟩
 have r1:∀ a,SQ Q ⟨c.set d (m.rd u a).1,(m.rd u a).2,j⟩ ⟨c.set d (m'.rd t a).1,(m'.rd t a).2,j⟩:=fun a=>⟨by dsimp only;rw [(h.rd u t a hq).1],rfl,(h.rd u t a hq).2⟩
 have w2:∀ a b,SQ Q ⟨c,m.wrw u a b,j⟩ ⟨c,m'.wrw t a b,j⟩:=fun a b=>⟨rfl,rfl,h.wrw hq a b⟩
 have w1:∀ a b,SQ Q ⟨c,m.wr u a b,j⟩ ⟨c,m'.wr t a b,j⟩:=fun a b=>⟨rfl,rfl,h.wr _ _ a b hq⟩
 have pu:=fun b=>h.push (c:=c) (k:=j) hq b
 have po:=h.pop (c:=c) (k:=j) hq
 have pv:=h.popV (c:=c) (k:=j) hq
 match k with
 | 0=>exact u0 _ _
 | 1=>exact u0 _ _
 | 2=>exact u0 _ _
 | 3=>exact r2 _
 | 4=>exact w2 _ _
 | 5=>exact r1 _
 | 6=>exact w1 _ _
 | 7=>exact u0 _ _
 | 8=>exact u0 _ _
 | 9=>exact u0 _ _
 | 10=>exact u0 _ _
 | 11=>exact u0 _ _
 | 12=>exact u0 _ _
 | 13=>exact u0 _ _
 | 14=>exact u0 _ _
 | 15=>exact u0 _ _
 | 16=>exact u0 _ _
 | 17=>show SQ Q (if c.Z then _ else _) (if c.Z then _ else _);split <;> exact u0 _ _
 | 18=>show SQ Q (if c.N then _ else _) (if c.N then _ else _);split <;> exact u0 _ _
 | 19=>show SQ Q (if c.C then _ else _) (if c.C then _ else _);split <;> exact u0 _ _
 | 20=>exact ⟨rfl,rfl,(pu _).s⟩
 | 21=>exact ⟨by show ({ (C.pop m ⟨c,u,j⟩).c with PC:=C.popV m ⟨c,u,j⟩ }:Cpu)={ (C.pop m' ⟨c,t,j⟩).c with PC:=C.popV m' ⟨c,t,j⟩ };rw [pv,po.c],rfl,po.s⟩
 | 22=>exact pu _
 | 23=>exact ⟨by show (C.pop m ⟨c,u,j⟩).c.set d (C.popV m ⟨c,u,j⟩)=(C.pop m' ⟨c,t,j⟩).c.set d (C.popV m' ⟨c,t,j⟩);rw [pv,po.c],rfl,po.s⟩
 | 24=>exact u0 _ _
 | 25=>exact u0 _ _
 | 26=>exact hcb
 | 27=>exact u0 _ _
 | 28=>exact u0 _ _
 | 29=>show SQ Q (if c.Z then _ else _) (if c.Z then _ else _);split <;> exact u0 _ _
 | 30=>exact u0 _ _
 | 31=>exact hl
 | k+32=>exact u0 _ _
theorem Sim.order (h:Sim m m' Q) (c:Cpu) {s:σ} {t:τ} (hq:Q s t):SQ Q (order m c s) (order m' c t):=by
 obtain ⟨e1,q1⟩:=h.rdw hq c.PC
 obtain ⟨e2,q2⟩:=h.rdw q1 ((c.PC+2) % 65536)
 have h1:C.word1 m c s=C.word1 m' c t:=e1
 have h2:C.word2 m c s=C.word2 m' c t:=by unfold C.word2;rw [h1,e2]
 have h3:SQ Q (C.behind m c s) (C.behind m' c t):=by
  unfold C.behind
  rw [h1]
  refine ⟨rfl,rfl,?_⟩
  dsimp only
  split
  ·exact q2
  ·exact q1
 unfold C.order
 rw [h1,h2]
 exact h.act (x:={ C.behind m c s with n:=K.cyc (O.rk (C.word1 m' c t)) }) (y:={ C.behind m' c t with n:=K.cyc (O.rk (C.word1 m' c t)) }) ⟨h3.c,rfl,h3.s⟩ _ _ _ _ _
theorem Sim.step (h:Sim m m' Q) (c:Cpu) {s:σ} {t:τ} (hq:Q s t) (r:Bool):SQ Q (step m c s r) (step m' c t r):=by
 unfold C.step
 split
 ·have:=h.leave (x:=⟨c,s,0⟩) (y:=⟨c,t,0⟩) ⟨rfl,rfl,hq⟩ 2
  exact ⟨this.c,rfl,this.s⟩
 ·split
  ·exact ⟨rfl,rfl,hq⟩
  ·exact h.order c hq
end
end Go.Proofs.YtbhpfkjfijdmaaaGreatDoor.C
namespace Go.Proofs.YtbhpfkjfijdmaaaGreatDoor
open Go.ChangeShapes Go.WideShapes Go.ChangeAt Go.RowKit
structure Bst.like (p : List Wt) (s t : Bst) : Prop where
 M:s.M=t.M
 l:s.l=p++t.l
theorem main_sim (p:List Wt):C.Sim mainMem mainMem (Bst.like p) where
 rd s t a h:=⟨by show (s.M.rdM a).1 % 256=(t.M.rdM a).1 % 256;rw [h.M],⟨by show (s.M.rdM a).2=(t.M.rdM a).2;rw [h.M],h.l⟩⟩
 wr s t a b h:=⟨by show s.M.wrM a (b % 256)=t.M.wrM a (b % 256);rw [h.M],h.l⟩
theorem aux_sim (p:List Wt):C.Sim auxMem auxMem (Bst.like p) where
 rd s t a h:=⟨by show (s.M.rdA a).1 % 256=(t.M.rdA a).1 % 256;rw [h.M],⟨by show (s.M.rdA a).2=(t.M.rdA a).2;rw [h.M],h.l⟩⟩
 wr s t a b h:=⟨by show s.M.wrA a (b % 256)=t.M.wrA a (b % 256);rw [h.M],by show s.l++s.M.shA a (b % 256)=p++(t.l++t.M.shA a (b % 256));rw [h.M,h.l,List.append_assoc]⟩
structure Bst.like2 (p : List Wt) (s t : Bst) : Prop extends Bst.like p s t where
 n:s.n=t.n
theorem main_sim2 (p:List Wt):C.Sim mainMem mainMem (Bst.like2 p) where
 rd s t a h:=⟨((main_sim p).rd s t a h.tolike).1,⟨((main_sim p).rd s t a h.tolike).2,h.n⟩⟩
 wr s t a b h:=⟨(main_sim p).wr s t a b h.tolike,by show s.n+_=t.n+_;rw [h.n]⟩
theorem stepMain_like {p:List Wt} {s t:Bst} (h:Bst.like p s t):Bst.like p s.stepMain t.stepMain:=by
 unfold Bst.stepMain
 rw [h.M]
 split
 ·exact h
 ·have hs:=(main_sim2 p).step t.M.main (s:=⟨t.M,0,s.l⟩) (t:=⟨t.M,0,t.l⟩) ⟨⟨rfl,h.l⟩,rfl⟩ (t.M.t.g || t.M.b.g)
  refine ⟨?_,hs.s.l⟩
  dsimp only
  rw [hs.c,hs.n,hs.s.M,hs.s.n]
theorem stepAux_like {p:List Wt} {s t:Bst} (h:Bst.like p s t):Bst.like p s.stepAux t.stepAux:=by
 unfold Bst.stepAux
 rw [h.M]
 split
 ·exact h
 ·have hs:=(aux_sim p).step t.M.aux (s:=s) (t:=t) h t.M.rung
  refine ⟨?_,hs.s.l⟩
  dsimp only
  rw [hs.c,hs.n,hs.s.M]
structure Cs.like (p : List Wt) (pl : List Lin) (ps : List UInt8) (k k' : Cs) : Prop where
 s:Bst.like p k.s k'.s
 co:k.co=k'.co
 ln:k.ln=pl++k'.ln
 sm:k.sm=ps++k'.sm
theorem clock_like {p:List Wt} {pl:List Lin} {ps:List UInt8} {k k':Cs} (h:Cs.like p pl ps k k'):Cs.like p pl ps k.clock k'.clock:=by
 have hM:=h.s.M
 have hc:=h.co
 have h1:Bst.like p ⟨k.s.M.pressed k.co,k.s.n,k.s.l⟩ ⟨k'.s.M.pressed k'.co,k'.s.n,k'.s.l⟩:=⟨by dsimp only;rw [hM,hc],h.s.l⟩
 have h2:=stepAux_like (stepMain_like h1)
 refine ⟨⟨?_,h2.l⟩,?_,?_,?_⟩
 ·show Mach.goOn (Bst.stepAux _).M=Mach.goOn (Bst.stepAux _).M
  rw [h2.M]
 ·show k.s.M.coming k.co=k'.s.M.coming k'.co
  rw [hM,hc]
 ·show k.ln++(k.s.M.pressed k.co).line=pl++(k'.ln++(k'.s.M.pressed k'.co).line)
  rw [h.ln,hM,hc,List.append_assoc]
 ·show k.sm++(k.s.M.pressed k.co).sample=ps++(k'.sm++(k'.s.M.pressed k'.co).sample)
  rw [h.sm,hM,hc,List.append_assoc]
theorem clocks_like {p:List Wt} {pl:List Lin} {ps:List UInt8} {k k':Cs} (h:Cs.like p pl ps k k'):∀ j:Nat,Cs.like p pl ps (k.clocks j) (k'.clocks j)
 | 0=>h
 | j+1=>clock_like (clocks_like h j)
theorem clocks_add (k:Cs) (a:Nat):∀ b:Nat,k.clocks (a+b)=(k.clocks a).clocks b
 | 0=>rfl
 | b+1=>by show (k.clocks (a+b)).clock=_;rw [clocks_add k a b];rfl
/-! ### what is still to be pressed -/
def Inps (l:List Inp):Prop:=l.Pairwise (fun x y=>x.c<=y.c)
theorem coming_filter:∀ (l:List Inp) (M:Mach),Inps l->M.coming l=l.filter (fun x=>decide (M.clock < x.c))
 | [],M,_=>rfl
 | x :: l,M,h=>by
  have h':=List.pairwise_cons.1 h
  unfold Mach.coming
  split
  ·rename_i hx
   rw [coming_filter l M h'.2,List.filter_cons_of_neg (by simp;omega)]
  ·rename_i hx
   rw [List.filter_cons_of_pos (by simp;omega),List.filter_eq_self.2 (fun y hy=>by have:=h'.1 y hy;simp;omega)]
theorem coming_after (k0:Cs) (l:List Inp) (h0:k0.co=l) (hp:Inps l) (hge:∀ x ∈ l,k0.s.M.clock<=x.c):∀ j:Nat,(k0.clocks j).s.M.clock=k0.s.M.clock+j/\(k0.clocks j).co=l.filter (fun x=>decide (k0.s.M.clock+j<=x.c))
 | 0=>⟨by simp [Cs.clocks],by
  show k0.co=_
  rw [h0,List.filter_eq_self.2 (fun y hy=>by have:=hge y hy;simp;omega)]⟩
 | j+1=>by
  obtain ⟨e1,e2⟩:=coming_after k0 l h0 hp hge j
  have e3:(k0.clocks (j+1)).co=(k0.clocks j).s.M.coming (k0.clocks j).co:=rfl
  refine ⟨?_,?_⟩
  ·show (k0.clocks j).now.s.M.clock+1=_
   rw [now_clock,e1];push_cast;omega
  ·rw [e3,e2,coming_filter _ _ (List.Pairwise.filter _ hp),List.filter_filter,e1]
   refine List.filter_congr (fun x hx=>?_)
   rw [<- Bool.decide_and]
   exact decide_eq_decide.2 (by push_cast;omega)
theorem two_parts (M:Mach) (l:List Inp) (hp:Inps l) (hge:∀ x ∈ l,M.clock<=x.c) (a b:Nat) :
 Cs.like (Cs.clocks ⟨⟨M,0,[]⟩,l,[],[]⟩ a).s.l (Cs.clocks ⟨⟨M,0,[]⟩,l,[],[]⟩ a).ln (Cs.clocks ⟨⟨M,0,[]⟩,l,[],[]⟩ a).sm (Cs.clocks ⟨⟨M,0,[]⟩,l,[],[]⟩ (a+b))
  (Cs.clocks ⟨⟨(Cs.clocks ⟨⟨M,0,[]⟩,l,[],[]⟩ a).s.M,0,[]⟩,l.filter (fun x=>decide (M.clock+a<=x.c)),[],[]⟩ b):=by
 rw [clocks_add]
 have hco:=(coming_after ⟨⟨M,0,[]⟩,l,[],[]⟩ l rfl hp hge a).2
 generalize Cs.clocks ⟨⟨M,0,[]⟩,l,[],[]⟩ a=k at hco ⊢
 exact clocks_like (p:=k.s.l) (pl:=k.ln) (ps:=k.sm) (k:=k) (k':=⟨⟨k.s.M,0,[]⟩,l.filter (fun x=>decide (M.clock+a<=x.c)),[],[]⟩) ⟨⟨rfl,by simp⟩,hco,by simp,by simp⟩ b
def comes (c:Int):List Inp->List Inp
 | []=>[]
 | x :: l=>if x.c < c then comes c l else x :: l
theorem comes_filter (c:Int):∀ l:List Inp,Inps l->comes c l=l.filter (fun x=>decide (c<=x.c))
 | [],_=>rfl
 | x :: l,h=>by
  have h':=List.pairwise_cons.1 h
  unfold comes
  split
  ·rename_i hx
   rw [List.filter_cons_of_neg (by simp;omega)]
   exact comes_filter c l h'.2
  ·rename_i hx
   rw [List.filter_eq_self.2 (fun y hy=>by
    rcases List.mem_cons.1 hy with rfl | hy
    ·simp;omega
    ·have:=h'.1 y hy;simp;omega)]
theorem comes_lt {c:Int} {x:Inp} {l:List Inp} (h:x.c < c):comes c (x :: l)=comes c l:=if_pos h
theorem comes_ge {c:Int} {x:Inp} {l:List Inp} (h:¬ x.c < c):x :: l=comes c (x :: l):=(if_neg h).symm
theorem InpAt.tail1 {B:Nat} {w:World} {g o k:Nat} {x:Inp} {t:List Inp} (h:InpAt B w (.slice (some ⟨g,o,none⟩) (x :: t).length k) (x :: t)):InpAt B w (.slice (some ⟨g,o+3,none⟩) t.length (k - 1)) t:=by
 rcases h with ⟨e,_⟩ | ⟨g',o',k',e1,e2,e3,e4,e5⟩
 ·cases e
 ·cases e1
  refine Or.inr ⟨g,o+3,k - 1,rfl,by simp at e2;omega,e3,e4,fun j y hj=>?_⟩
  have:=e5 (j+1) y hj
  rw [show o+3 * (j+1)=o+3+3 * j by omega] at this
  exact this
def slLen:Value->Nat
 | .slice _ n _=>n
 | _=>0
theorem Wc.coming (l:List Inp) (v:Value) (B:Nat) (c:Int) (w:World) (h:InpAt B w v l):Calls Tryz.prog 63 #[v,.int .i64 c] w fun e w'=>(∃ v',e = .returned v'/\InpAt B w v' (comes c l))/\w'=w:=by
 have H:=hid h
 clear h
 go_enter Tryz.func63,Tryz.ntmps63
 go_wp2
 go_loopw [0] (fun s wr=>∃ l':List Inp,InpAt B w s l'/\comes c l'=comes c l/\wr=w) (fun s _=>slLen s)
 case atStart=>exact ⟨l,H.out,rfl,rfl⟩
 case round =>
  obtain ⟨l',hl,hE,rfl⟩:=hrel
  have HE:=hid hE
  cases l' with
  | nil =>
   obtain ⟨a,k,ev⟩:=hl.len
   cases ev
   have HL:=hid hl
   clear hl hE
   go_wp2
   go_ret
   exact ⟨⟨_,rfl,by rw [<- HE.out];exact HL.out⟩,rfl⟩
  | cons x t =>
   obtain ⟨g,o,k,ev,gz,x0,x1,x2⟩:=hl.at' (j:=0) (x:=x) rfl
   cases ev
   have hk:t.length+1<=k:=by
    rcases hl with ⟨e,_⟩ | ⟨g',o',k',e1,e2,_⟩
    ·cases e
    ·cases e1;exact e2
   have HL:=hid hl
   have hk1:1<=k:=by omega
   have y0:wr.cell? ⟨g,o,none⟩=some (.int .i64 x.c):=by rw [<- x0];simp
   clear hl hE x1 x2 x0
   by_cases q:x.c < c
   ·have HQ:=hid q
    by_cases hk2:k=1
    ·go_wp2
     have ht:t=[]:=List.eq_nil_of_length_eq_zero (by omega)
     subst ht
     exact ⟨⟨[],Or.inl ⟨rfl,_,_,rfl⟩,by rw [<- HE.out,comes_lt HQ.out],trivial⟩,by simp [slLen]⟩
    ·go_wp2
     exact ⟨⟨t,HL.out.tail1,by rw [<- HE.out,comes_lt HQ.out],trivial⟩,by simp [slLen]⟩
   ·have HQ:=hid q
    go_wp2
    go_ret
    exact ⟨⟨_,rfl,by rw [<- HE.out,<- comes_ge (Int.not_lt.2 HQ.out)];exact HL.out⟩,rfl⟩
def wtext (rom:List UInt8) (pc:Nat):List UInt8 :=
 if rom.length - pc < 2 then [63] else (Lib.cut (S.list ((rom.drop pc).take (min ((rom.length - pc) / 2 * 2) 4))) [10]).1
theorem Wc.cut (l:List UInt8) (hl:l.length<=10000) (w:World) (hF:AF w) :
 Calls Tryz.prog 57 #[.string (Asmk l),.string ⟨#[10]⟩] w fun e w'=>e = .returned (.tuple #[.string (Asmk (Lib.cut l [10]).1),.string (Asmk (Lib.cut l [10]).2.1),.bool (Lib.cut l [10]).2.2])/\Below w.heap.size w w':=by
 obtain ⟨m,hm⟩:=hF.len
 refine (Tryz.strings_Cut (Asmk l) (Asmk [10]) m w (by rw [mk_size];omega) hm).mono fun e w' ⟨he,n,hw⟩=>⟨he,?_⟩
 subst hw
 exact st_drewN (st0 w) n
theorem list_small:∀ (f:Nat) (l:List UInt8),(S.listN f l).length<=61 * f
 | 0,l=>by simp [S.listN]
 | f+1,l=>by
  by_cases h:l=[]
  ·subst h;simp [S.listN]
  ·rw [listN_step f l h]
   have:=Asline_len l
   have:=list_small f (l.drop (S.firstLine l).2)
   simp;omega
theorem Wc.few (a:Option Addr) (n cap:Nat) (pc:Nat) (hp:pc<=65535) (hc:n<=cap) (hn:n<=9223372036854775807) (hf:n - pc < 2) (w:World) :
 Calls Tryz.prog 66 #[.slice a n cap,.int .u16 pc] w fun e w'=>e = .returned (.string (Asmk [63]))/\w'=w:=by
 obtain ⟨k,hk⟩:∃ k,k=min pc n:=⟨_,rfl⟩
 have hm:min (pc:Int) (n:Int)=(k:Int):=by omega
 have h1:k<=n:=by omega
 have h2:k<=cap:=by omega
 have h3:(((n - k:Nat):Int) < 2):=by omega
 have hw:IntKind.i64.wrap (pc:Int)=pc:=by rw [IntKind.wrap_i64];omega
 clear hk hf
 go_enter Tryz.func66,Tryz.ntmps66
 go_wp2
 all_goals go_ret
 all_goals exact ⟨rfl,rfl⟩
theorem does_any (c:C.Cpu) (r:Bool) (w:World) :
 Calls Tryz.prog 65 #[.agg (cpuL c).toArray,.bool r] w fun e w'=>e = .returned (.bool (!c.Waits && !(c.May && r)))/\Below w.heap.size w w':=by
 have hB:=Bx.new w (cpuL c) 25 (b:=w.heap.size) rfl
 have x14:=hB.at 14 _ rfl
 have x13:=hB.at 13 _ rfl
 have hq:Below w.heap.size w (w.alloc (.cells (cpuL c).toArray 25)):=stA (st0 w) _
 obtain ⟨wv,hwv⟩:∃ b,b=c.Waits:=⟨_,rfl⟩
 obtain ⟨my,hmy⟩:∃ b,b=c.May:=⟨_,rfl⟩
 rw [<- hwv] at x14 ⊢
 rw [<- hmy] at x13 ⊢
 clear hB hwv hmy
 cases wv <;> cases my
 all_goals
  go_enter Tryz.func65,Tryz.ntmps65
  go_wp2
 all_goals go_ret
 all_goals exact ⟨rfl,hq⟩
def Mach.next (M:Mach):Int:=max (if M.held then M.mready else min M.mready M.aready) (M.clock+1)
theorem Wc.next (M:Mach) (S:Sl) (hc:0<=M.clock/\M.clock<=200000) (w:World) :
 Calls Tryz.prog 64 #[.agg (machL M S).toArray] w fun e w'=>e = .returned (.int .i64 M.next)/\Below w.heap.size w w':=by
 have hB:=Bx.new w (machL M S) 41 (b:=w.heap.size) rfl
 have x68:=hB.at 68 _ rfl
 have x72:=hB.at 72 _ rfl
 have x73:=hB.at 73 _ rfl
 have x74:=hB.at 74 _ rfl
 have hq:Below w.heap.size w (w.alloc (.cells (machL M S).toArray 41)):=stA (st0 w) _
 obtain ⟨h,hh⟩:∃ b,b=M.held:=⟨_,rfl⟩
 unfold Mach.next
 rw [<- hh] at x68 ⊢
 obtain ⟨c0,c1⟩:=hc
 clear hB hh
 cases h
 all_goals
  go_enter Tryz.func64,Tryz.ntmps64
  go_wp2
 all_goals go_ret
 all_goals exact ⟨rfl,hq⟩
structure Dd where
 c:Int
 a:Bool
 pc:Int
 t:List UInt8
def didL (x:Dd):List Value:=[.int .i64 x.c,.bool x.a,.int .u16 x.pc,.string (Asmk x.t)]
def dcs (l:List Dd):List Value:=(l.map didL).flatten
structure Bat (W : World) (b : Nat) (l a : Int) (g : Bool) (f : Int) : Prop where
 z:b < W.heap.size
 c0:W.cell? ⟨b,0,none⟩=some (.int .i64 l)
 c1:W.cell? ⟨b,1,none⟩=some (.int .i64 a)
 c2:W.cell? ⟨b,2,none⟩=some (.bool g)
 c3:W.cell? ⟨b,3,none⟩=some (.int .i64 f)
 f:∀ o,W.frozen? ⟨b,o,none⟩=false
section
variable {W w1 : World} {b : Nat} {l a f : Int} {g : Bool}
theorem Bat.kept (h:Bat W b l a g f) (hb:Below W.heap.size W w1):Bat w1 b l a g f :=
 ⟨Nat.lt_of_lt_of_le h.z hb.size,(hb.cell (p:=⟨b,0,none⟩) h.z).trans h.c0,(hb.cell (p:=⟨b,1,none⟩) h.z).trans h.c1,(hb.cell (p:=⟨b,2,none⟩) h.z).trans h.c2,(hb.cell (p:=⟨b,3,none⟩) h.z).trans h.c3,fun o=>(hb.frozen (p:=⟨b,o,none⟩) h.z).trans (h.f o)⟩
theorem Bat.over (h:Bat W b l a g f) (o:Obj):Bat (W.alloc o) b l a g f:=h.kept (stA (st0 W) o)
theorem Bat.new (W:World) (l a:Int) (g:Bool) (f:Int):Bat (W.alloc (.cells #[.int .i64 l,.int .i64 a,.bool g,.int .i64 f] 38)) W.heap.size l a g f :=
 ⟨by simp,Pl.new _ _ _ _ rfl,Pl.new _ _ _ _ rfl,Pl.new _ _ _ _ rfl,Pl.new _ _ _ _ rfl,fun o=>Lib.frozen_of_heap (heap_alloc_new W _) o⟩
theorem Bat.far (h:Bat W b l a g f) {b' o':Nat} (hne:b' ≠ b) (v:Value):Bat (W.setCell ⟨b',o',none⟩ v) b l a g f:=by
 have e:∀ o,(W.setCell ⟨b',o',none⟩ v).cell? ⟨b,o,none⟩=W.cell? ⟨b,o,none⟩:=fun o=>World.cell?_setCell_far W _ _ v hne
 exact ⟨by simpa using h.z,(e 0).trans h.c0,(e 1).trans h.c1,(e 2).trans h.c2,(e 3).trans h.c3,fun o=>by simpa using h.f o⟩
theorem Bat.put2 (h:Bat W b l a g f) (g':Bool):Bat (W.setCell ⟨b,2,none⟩ (.bool g')) b l a g' f:=by
 have e:∀ o,o ≠ 2->(W.setCell ⟨b,2,none⟩ (.bool g')).cell? ⟨b,o,none⟩=W.cell? ⟨b,o,none⟩:=fun o ho=>World.cell?_setCell_other _ _ _ _ (by intro e;exact ho (congrArg Addr.off e).symm)
 exact ⟨by simpa using h.z,(e 0 (by omega)).trans h.c0,(e 1 (by omega)).trans h.c1,World.cell?_setCell_same' _ _ _ (by rw [h.c2];rfl),(e 3 (by omega)).trans h.c3,fun o=>by simpa using h.f o⟩
theorem Bat.drew (h:Bat W b l a g f):Bat W.drew b l a g f:=⟨h.z,h.c0,h.c1,h.c2,h.c3,h.f⟩
theorem Bat.range (h:Bat W b l a g f):W.rangeAt b 0 [.int .i64 l,.int .i64 a,.bool g,.int .i64 f]:=fun j v hj=>by
 rw [Nat.zero_add]
 match j,hj with
 | 0,hj=>rw [h.c0];simpa using hj
 | 1,hj=>rw [h.c1];simpa using hj
 | 2,hj=>rw [h.c2];simpa using hj
 | 3,hj=>rw [h.c3];simpa using hj
theorem Bat.puts (h:Bat W b l a g f) (l' a':Int) (g':Bool) (f':Int):Bat ((((W.setCell ⟨b,0,none⟩ (.int .i64 l')).setCell ⟨b,1,none⟩ (.int .i64 a')).setCell ⟨b,2,none⟩ (.bool g')).setCell ⟨b,3,none⟩ (.int .i64 f')) b l' a' g' f':=by
 have ht:W.there b 0 4:=fun j hj=>by
  refine ⟨?_,h.f _⟩
  rw [Nat.zero_add]
  match j,hj with
  | 0,_=>rw [h.c0];rfl
  | 1,_=>rw [h.c1];rfl
  | 2,_=>rw [h.c2];rfl
  | 3,_=>rw [h.c3];rfl
 have hr:=World.rangeAt_setCells_same W b 0 [.int .i64 l',.int .i64 a',.bool g',.int .i64 f'] ht
 simp only [World.setCells,Nat.zero_add,Nat.reduceAdd] at hr
 exact ⟨by simpa using h.z,hr 0 _ rfl,hr 1 _ rfl,hr 2 _ rfl,hr 3 _ rfl,fun o=>by simpa using h.f o⟩
theorem Bat.below (h:Bat W b l a g f) {w:World} (hB:Below w.heap.size w W) (hb:w.heap.size<=b) (l' a':Int) (g':Bool) (f':Int):Below w.heap.size w ((((W.setCell ⟨b,0,none⟩ (.int .i64 l')).setCell ⟨b,1,none⟩ (.int .i64 a')).setCell ⟨b,2,none⟩ (.bool g')).setCell ⟨b,3,none⟩ (.int .i64 f')) :=
 (((hB.setCell hb _).setCell hb _).setCell hb _).setCell hb _
end
structure RunB (w : World) (B : Nat) (l a : Int) (g : Bool) (f : Int) (W : World) : Prop where
 low:Below w.heap.size w W
 t:Bat W w.heap.size l a g f
 r:Bat W (w.heap.size+1) 0 0 false 0
 q:W.cell? ⟨B,0,none⟩=some (.int .i64 640)
 z:B < W.heap.size
 ne:w.heap.size < B
theorem RunB.drew {w W:World} {B:Nat} {l a f:Int} {g:Bool} (h:RunB w B l a g f W):RunB w B l a g f W.drew:=⟨h.low.drew,h.t.drew,h.r.drew,h.q,h.z,h.ne⟩
theorem runB_mk {w w1:World} {l a f:Int} {g x:Bool}
 (hb1:Below ((w.alloc (.cells #[.int .i64 l,.int .i64 a,.bool g,.int .i64 f] 38)).alloc (.cells #[.int .i64 0,.int .i64 0,.bool false,.int .i64 0] 38)).heap.size ((w.alloc (.cells #[.int .i64 l,.int .i64 a,.bool g,.int .i64 f] 38)).alloc (.cells #[.int .i64 0,.int .i64 0,.bool false,.int .i64 0] 38)) w1) :
 RunB w (w1.heap.size+1) l a x f (((w1.setCell ⟨w.heap.size,2,none⟩ (.bool x)).alloc (.cells #[.int .i64 512] 3)).alloc (.cells #[.int .i64 640] 3)):=by
 have hB:=stp (stA (stA (st0 w) _) _) hb1
 have ht:=((Bat.new w l a g f).over (.cells #[.int .i64 0,.int .i64 0,.bool false,.int .i64 0] 38)).kept hb1
 have hr0:=Bat.new (w.alloc (.cells #[.int .i64 l,.int .i64 a,.bool g,.int .i64 f] 38)) 0 0 false 0
 have e:(w.alloc (.cells #[.int .i64 l,.int .i64 a,.bool g,.int .i64 f] 38)).heap.size=w.heap.size+1:=by simp
 rw [e] at hr0
 have hr:=hr0.kept hb1
 refine ⟨stA (stA (hB.setCell (Nat.le_refl _) _) _) _,((ht.put2 x).over _).over _,((hr.far (by omega) _).over _).over _,Pl.new _ _ _ _ (by simp),by simp,?_⟩
 have:=ht.z
 omega
theorem Bm.resB {w w1:World} {l a f:Int} {g:Bool}
 (hb1:Below ((w.alloc (.cells #[.int .i64 l,.int .i64 a,.bool g,.int .i64 f] 38)).alloc (.cells #[.int .i64 0,.int .i64 0,.bool false,.int .i64 0] 38)).heap.size ((w.alloc (.cells #[.int .i64 l,.int .i64 a,.bool g,.int .i64 f] 38)).alloc (.cells #[.int .i64 0,.int .i64 0,.bool false,.int .i64 0] 38)) w1) :
 Below w.heap.size w ((((w1.setCell ⟨w.heap.size+1,0,none⟩ (.int .i64 0)).setCell ⟨w.heap.size+1,1,none⟩ (.int .i64 0)).setCell ⟨w.heap.size+1,2,none⟩ (.bool false)).setCell ⟨w.heap.size+1,3,none⟩ (.int .i64 0))/\((((w1.setCell ⟨w.heap.size+1,0,none⟩ (.int .i64 0)).setCell ⟨w.heap.size+1,1,none⟩ (.int .i64 0)).setCell ⟨w.heap.size+1,2,none⟩ (.bool false)).setCell ⟨w.heap.size+1,3,none⟩ (.int .i64 0)).rangeAt (w.heap.size+1) 0 [.int .i64 0,.int .i64 0,.bool false,.int .i64 0]:=by
 have hB:=stp (stA (stA (st0 w) _) _) hb1
 have hr0:=Bat.new (w.alloc (.cells #[.int .i64 l,.int .i64 a,.bool g,.int .i64 f] 38)) 0 0 false 0
 have e:(w.alloc (.cells #[.int .i64 l,.int .i64 a,.bool g,.int .i64 f] 38)).heap.size=w.heap.size+1:=by simp
 rw [e] at hr0
 have hr:=hr0.kept hb1
 exact ⟨hr.below hB (by omega) 0 0 false 0,(hr.puts 0 0 false 0).range⟩
theorem RunB.all {w W:World} {B:Nat} {l a f:Int} {g:Bool} (h:RunB w B l a g f W):W.cell? ⟨w.heap.size,3,none⟩=some (.int .i64 f)/\W.frozen? ⟨w.heap.size,3,none⟩=false/\RunB w B l a g f W:=⟨h.t.c3,h.t.f 3,h⟩
theorem RunB.fin {w W:World} {B:Nat} {l a f:Int} {x:Bool} (h:RunB w B l a x f W) (l' a' f':Int) :
 Below w.heap.size w (((((((W.setCell ⟨w.heap.size,3,none⟩ (.int .i64 f')).setCell ⟨w.heap.size,0,none⟩ (.int .i64 l')).setCell ⟨w.heap.size,1,none⟩ (.int .i64 a')).setCell ⟨w.heap.size+1,0,none⟩ (.int .i64 l')).setCell ⟨w.heap.size+1,1,none⟩ (.int .i64 a')).setCell ⟨w.heap.size+1,2,none⟩ (.bool x)).setCell ⟨w.heap.size+1,3,none⟩ (.int .i64 f')).drew/\(((((((W.setCell ⟨w.heap.size,3,none⟩ (.int .i64 f')).setCell ⟨w.heap.size,0,none⟩ (.int .i64 l')).setCell ⟨w.heap.size,1,none⟩ (.int .i64 a')).setCell ⟨w.heap.size+1,0,none⟩ (.int .i64 l')).setCell ⟨w.heap.size+1,1,none⟩ (.int .i64 a')).setCell ⟨w.heap.size+1,2,none⟩ (.bool x)).setCell ⟨w.heap.size+1,3,none⟩ (.int .i64 f')).drew.rangeAt (w.heap.size+1) 0 [.int .i64 l',.int .i64 a',.bool x,.int .i64 f']:=by
 have hb:=((h.low.setCell (p:=⟨w.heap.size,3,none⟩) (Nat.le_refl _) (.int .i64 f')).setCell (p:=⟨w.heap.size,0,none⟩) (Nat.le_refl _) (.int .i64 l')).setCell (p:=⟨w.heap.size,1,none⟩) (Nat.le_refl _) (.int .i64 a')
 have hr:=((h.r.far (by omega) (.int .i64 f') (o':=3) (b':=w.heap.size)).far (by omega) (.int .i64 l') (o':=0) (b':=w.heap.size)).far (by omega) (.int .i64 a') (o':=1) (b':=w.heap.size)
 exact ⟨(hr.below hb (by omega) l' a' x f').drew,(hr.puts l' a' x f').drew.range⟩
theorem Bm.run_any (l a f n:Int) (g:Bool) (w:World) (h:BOk l a f) (hn:0<=n/\n<=20000) :
 Calls Tryz.prog 56 #[.agg #[.int .i64 l,.int .i64 a,.bool g,.int .i64 f],.int .i64 n] w fun e w'=>e = .returned (.tuple #[.agg #[.int .i64 (bmL l a n),.int .i64 (bmA l a n),.bool (bmG l a g n),.int .i64 (bmF l a f n)],.int .i64 0])/\Below w.heap.size w w':=by
 have H:=hid h
 have hw:=wthn_yes hn.1 hn.2
 obtain ⟨l0,l1,a0,a1,f0,f1⟩:=h
 obtain ⟨n0,n1⟩:=hn
 have p0:0<=l * 64+a:=by omega
 have p1:l * 64+a<=639:=by omega
 have m1:Int.tmod (l * 64+a+n) 640=(l * 64+a+n) % 640:=Int.tmod_eq_emod_of_nonneg (by omega)
 have m2:Int.tmod (l * 64+a+n) 64=(l * 64+a+n) % 64:=Int.tmod_eq_emod_of_nonneg (by omega)
 have m3:Int.tdiv ((l * 64+a+n) % 640) 64=(l * 64+a+n) % 640 / 64:=Int.tdiv_eq_ediv_of_nonneg (by omega)
 cases g
 ·go_enter Tryz.func56,Tryz.ntmps56
  go_wp2_with (first
   | (go_at_call 94;refine (Bm.check_yes l a f _ _ H.out).mono ?_;rintro e w1 ⟨rfl,hb1⟩;obtain ⟨k1,f1⟩:=bcell hb1;have z1:w.heap.size+1 < w1.heap.size:=Nat.lt_of_lt_of_le (by simp) hb1.size;have z0:w.heap.size < w1.heap.size:=Nat.lt_of_succ_lt z1)
   | (go_at_call 95;refine (Bm.within_any _ _ _).mono ?_;rintro e w0 ⟨rfl,rfl⟩)
   | (go_at_call 96;refine (Bm.each_any _ _).mono ?_;rintro e w0 ⟨rfl,rfl⟩)
   | (go_at_call 143;refine (Bm.often_any 512 _ w1.heap.size _ (by omega) (by omega) (by simp) (by simp;omega)).mono ?_;rintro e w0 ⟨rfl,rfl⟩))
  have hG:bmG l a false n=decide ((l * 64+a+640 - 512) / 640 < (l * 64+a+n+640 - 512) / 640):=by
   unfold bmG;rw [Bool.false_or,decide_eq_decide];omega
  have HG:=hid hG
  clear hG
  refine Pl.cutW (fun W=>RunB w (w1.heap.size+1) l a (bmG l a false n) f W) (by rw [HG.out];exact runB_mk hb1) ?_
  rintro W hK
  have HK:=hid hK
  clear hK
  generalize hB:w1.heap.size+1=B at *
  clear hb1 k1 f1 z1 z0
  have tz:=HK.out.t.z
  obtain ⟨_,t0,t1,t2,t3,_⟩:=HK.out.t
  have ew:IntKind.i64.wrap (f+(l * 64+a+n) / 640)=f+(l * 64+a+n) / 640:=by rw [IntKind.wrap_i64];omega
  obtain ⟨_,r0,r1,r2,r3,_⟩:=HK.out.r
  have tf:=HK.out.t.f
  have rz:=HK.out.r.z
  have rf:=HK.out.r.f
  go_region_with ((go_at_call 143;refine (Bm.often_any 640 _ B _ (by omega) (by omega) (by first | exact HK.out.q | exact HK.out.drew.q) (by first | exact HK.out.z | exact HK.out.drew.z)).mono ?_;rintro e w0 ⟨rfl,rfl⟩))
  all_goals go_wp2
  all_goals
   have hF:=HK.out.fin ((l * 64+a+n) % 640 / 64) ((l * 64+a+n) % 64) (f+(l * 64+a+n) / 640)
   refine Pl.cutB (fun Y=>Below w.heap.size w Y/\Y.rangeAt (w.heap.size+1) 0 [.int .i64 (bmL l a n),.int .i64 (bmA l a n),.bool (bmG l a false n),.int .i64 (bmF l a f n)]) hF ?_
   rintro Y ⟨hY,hR⟩
   have hl:=load_beam Y _ _ _ _ _ hR
   refine bodyPost_ret (v:=.tuple #[.agg #[.int .i64 (bmL l a n),.int .i64 (bmA l a n),.bool (bmG l a false n),.int .i64 (bmF l a f n)],.int .i64 0]) ?_ rfl ⟨rfl,hY⟩
   simp only [results,Tryz.results56]
   simp
   show (Result.andThen (Sem.run Tryz.prog (loadVar 38 ⟨w.heap.size+1,0,none⟩) Y) _)=_
   rw [hl]
   rfl
 ·go_enter Tryz.func56,Tryz.ntmps56
  go_wp2_with (first
   | (go_at_call 94;refine (Bm.check_yes l a f _ _ H.out).mono ?_;rintro e w1 ⟨rfl,hb1⟩;obtain ⟨k1,f1⟩:=bcell hb1;have z1:w.heap.size+1 < w1.heap.size:=Nat.lt_of_lt_of_le (by simp) hb1.size;have z0:w.heap.size < w1.heap.size:=Nat.lt_of_succ_lt z1)
   | (go_at_call 95;refine (Bm.within_any _ _ _).mono ?_;rintro e w0 ⟨rfl,rfl⟩)
   | (go_at_call 96;refine (Bm.each_any _ _).mono ?_;rintro e w0 ⟨rfl,rfl⟩)
   | (go_at_call 143;refine (Bm.often_any 512 _ w1.heap.size _ (by omega) (by omega) (by simp) (by simp;omega)).mono ?_;rintro e w0 ⟨rfl,rfl⟩))
  have hG:bmG l a true n=true:=by unfold bmG;rw [Bool.true_or]
  have HG:=hid hG
  clear hG
  refine Pl.cutW (fun W=>RunB w (w1.heap.size+1) l a (bmG l a true n) f W) (by rw [HG.out];exact runB_mk hb1) ?_
  rintro W hK
  have HK:=hid hK
  clear hK
  generalize hB:w1.heap.size+1=B at *
  clear hb1 k1 f1 z1 z0
  have tz:=HK.out.t.z
  obtain ⟨_,t0,t1,t2,t3,_⟩:=HK.out.t
  have ew:IntKind.i64.wrap (f+(l * 64+a+n) / 640)=f+(l * 64+a+n) / 640:=by rw [IntKind.wrap_i64];omega
  obtain ⟨_,r0,r1,r2,r3,_⟩:=HK.out.r
  have tf:=HK.out.t.f
  have rz:=HK.out.r.z
  have rf:=HK.out.r.f
  go_region_with ((go_at_call 143;refine (Bm.often_any 640 _ B _ (by omega) (by omega) (by first | exact HK.out.q | exact HK.out.drew.q) (by first | exact HK.out.z | exact HK.out.drew.z)).mono ?_;rintro e w0 ⟨rfl,rfl⟩))
  all_goals go_wp2
  all_goals
   have hF:=HK.out.fin ((l * 64+a+n) % 640 / 64) ((l * 64+a+n) % 64) (f+(l * 64+a+n) / 640)
   refine Pl.cutB (fun Y=>Below w.heap.size w Y/\Y.rangeAt (w.heap.size+1) 0 [.int .i64 (bmL l a n),.int .i64 (bmA l a n),.bool (bmG l a true n),.int .i64 (bmF l a f n)]) hF ?_
   rintro Y ⟨hY,hR⟩
   have hl:=load_beam Y _ _ _ _ _ hR
   refine bodyPost_ret (v:=.tuple #[.agg #[.int .i64 (bmL l a n),.int .i64 (bmA l a n),.bool (bmG l a true n),.int .i64 (bmF l a f n)],.int .i64 0]) ?_ rfl ⟨rfl,hY⟩
   simp only [results,Tryz.results56]
   simp
   show (Result.andThen (Sem.run Tryz.prog (loadVar 38 ⟨w.heap.size+1,0,none⟩) Y) _)=_
   rw [hl]
   rfl
theorem Bm.run_bad (l a f n:Int) (g:Bool) (w:World) (h:¬ BOk l a f \/ (BOk l a f /\ ¬ (0<=n/\n<=20000))) :
 Calls Tryz.prog 56 #[.agg #[.int .i64 l,.int .i64 a,.bool g,.int .i64 f],.int .i64 n] w fun e w'=>e = .returned (.tuple #[.agg #[.int .i64 0,.int .i64 0,.bool false,.int .i64 0],.int .i64 3])/\Below w.heap.size w w':=by
 rcases h with h | ⟨h,hn⟩
 ·have H:=hid h
  clear h
  go_enter Tryz.func56,Tryz.ntmps56
  go_wp2_with (go_at_call 94;refine (Bm.check_no l a f _ _ H.out).mono ?_;rintro e w1 ⟨rfl,hb1⟩;obtain ⟨k1,f1⟩:=bcell hb1;have z1:w.heap.size+1 < w1.heap.size:=Nat.lt_of_lt_of_le (by simp) hb1.size;have z0:w.heap.size < w1.heap.size:=Nat.lt_of_succ_lt z1)
  refine Pl.cutB (fun Y=>Below w.heap.size w Y/\Y.rangeAt (w.heap.size+1) 0 [.int .i64 0,.int .i64 0,.bool false,.int .i64 0]) (Bm.resB hb1) ?_
  rintro Y ⟨hY,hR⟩
  have hl:=load_beam Y _ _ _ _ _ hR
  refine bodyPost_ret (v:=.tuple #[.agg #[.int .i64 0,.int .i64 0,.bool false,.int .i64 0],.int .i64 3]) ?_ rfl ⟨rfl,hY⟩
  simp only [results,Tryz.results56]
  simp
  show (Result.andThen (Sem.run Tryz.prog (loadVar 38 ⟨w.heap.size+1,0,none⟩) Y) _)=_
  rw [hl]
  rfl
 ·have H:=hid h
  have hw:=wthn_no hn
  clear h hn
  go_enter Tryz.func56,Tryz.ntmps56
  go_wp2_with (first
   | (go_at_call 94;refine (Bm.check_yes l a f _ _ H.out).mono ?_;rintro e w1 ⟨rfl,hb1⟩;obtain ⟨k1,f1⟩:=bcell hb1;have z1:w.heap.size+1 < w1.heap.size:=Nat.lt_of_lt_of_le (by simp) hb1.size;have z0:w.heap.size < w1.heap.size:=Nat.lt_of_succ_lt z1)
   | (go_at_call 95;refine (Bm.within_any _ _ _).mono ?_;rintro e w0 ⟨rfl,rfl⟩))
  refine Pl.cutB (fun Y=>Below w.heap.size w Y/\Y.rangeAt (w.heap.size+1) 0 [.int .i64 0,.int .i64 0,.bool false,.int .i64 0]) (Bm.resB hb1) ?_
  rintro Y ⟨hY,hR⟩
  have hl:=load_beam Y _ _ _ _ _ hR
  refine bodyPost_ret (v:=.tuple #[.agg #[.int .i64 0,.int .i64 0,.bool false,.int .i64 0],.int .i64 3]) ?_ rfl ⟨rfl,hY⟩
  simp only [results,Tryz.results56]
  simp
  show (Result.andThen (Sem.run Tryz.prog (loadVar 38 ⟨w.heap.size+1,0,none⟩) Y) _)=_
  rw [hl]
  rfl
section
variable {F : Fx} {W : World} {M M' : Mach} {tk : Tk}
theorem Lk.run1 (b:Bem) (w:World) (h:BOr b.l b.a b.f):Calls Tryz.prog 56 #[.agg #[.int .i64 b.l,.int .i64 b.a,.bool b.g,.int .i64 b.f],.int .i64 1] w fun e w'=>∃ x,e = .returned (.tuple #[.agg #[.int .i64 b.one.l,.int .i64 b.one.a,.bool b.one.g,.int .i64 b.one.f],.int .i64 x])/\Below w.heap.size w w':=by
 unfold Bem.one
 by_cases hk:bok b.l b.a b.f=true
 ·rw [if_pos hk]
  refine (Bm.run_any b.l b.a b.f 1 b.g w ((bok_iff _ _ _).1 hk) ⟨by decide,by decide⟩).mono ?_
  rintro e w1 ⟨rfl,hb⟩
  exact ⟨_,rfl,hb⟩
 ·rw [if_neg hk]
  refine (Bm.run_bad b.l b.a b.f 1 b.g w (Or.inl (fun x=>hk ((bok_iff _ _ _).2 x)))).mono ?_
  rintro e w1 ⟨rfl,hb⟩
  exact ⟨_,rfl,hb⟩
def GW (F:Fx) (W:World) (M:Mach) (tk:Tk) (Y:World):Prop:=Bd F Y M tk/\Bt F W Y
theorem Lk.goOn (h:Bd F W M tk) (hc:M.clock < 200000):Calls Tryz.prog 27 #[pt F.g 0] W fun e w'=>e = .returned (.tuple #[])/\Bd F w' M.goOn tk/\Bt F W w':=by
 have c0:=h.at 41 (.int .u16 M.t.r) rfl
 have c1:=h.at 42 (.int .u16 M.t.c) rfl
 have c2:=h.at 43 (.bool M.t.on) rfl
 have c3:=h.at 44 (.bool M.t.g) rfl
 have ff:=h.bx.f
 have hg:=h.bx.z
 have hf:=h.fit
 have hff:=goOn_fit hf hc
 have HFF:=hid hff
 have HF:=hid hf
 have H:=hid h
 have HC:=hid hc
 have hcl:=hf.clock
 obtain ⟨T1,hT1⟩:∃ T1:TM,T1=⟨M.t.r,tkC M.t.r M.t.c M.t.on,M.t.on,tkG M.t.c M.t.on M.t.g⟩:=⟨_,rfl⟩
 have HT1:=hid hT1
 clear h hf hff hc hT1
 go_enter Tryz.func27,Tryz.ntmps27
 go_upto_region 1 with (go_at_call 54;refine (Tm.tick_any _ _ _ _ _ HF.out.tc).mono ?_;rintro e w1 ⟨rfl,hb1⟩;obtain ⟨k1,f1⟩:=bcell hb1;have z2:F.g < w1.heap.size:=lt_old hg hb1 (by simp))
 refine Pl.cutW (GW F W { M with t:=T1 } tk) ⟨by rw [HT1.out];exact (H.out.kept hb1).puts (M':={ M with t:=⟨M.t.r,tkC M.t.r M.t.c M.t.on,M.t.on,tkG M.t.c M.t.on M.t.g⟩ }) (tk':=tk) 41 [.int .u16 M.t.r,.int .u16 (tkC M.t.r M.t.c M.t.on),.bool M.t.on,.bool (tkG M.t.c M.t.on M.t.g)] (by simp) rfl ⟨rfl,rfl,rfl,rfl,rfl⟩ { HF.out with main:=HF.out.main,tr:=HF.out.tr,tc:=tk_bd HF.out.tr HF.out.tc },Bt.sets H.out.nd [.int .u16 M.t.r,.int .u16 (tkC M.t.r M.t.c M.t.on),.bool M.t.on,.bool (tkG M.t.c M.t.on M.t.g)] 41 _ (Bt.kept (Bt.refl F W) H.out.big hb1)⟩ ?_
 intro Y hY
 have HY:=hid hY.1
 have HYT:=hid hY.2
 clear hY hb1 k1 f1 z2 c0 c1 c2 c3 ff hg
 obtain ⟨M1,hM1⟩:∃ M1:Mach,M1={ M with t:=T1 }:=⟨_,rfl⟩
 rw [<- hM1] at HY
 have HM1:=hid hM1
 have hs1:M1.s=M.s:=by rw [hM1]
 have hsf:M1.s.fit:=by rw [hs1];exact { HF.out.s with w:=HF.out.w }
 have HSF:=hid hsf
 clear hM1 hs1 hsf
 go_upto_region 2 with (first
  | (refine wpList_load_mid rfl 36 _ rfl F.g 45 rfl (sndL M1.s) _ HY.out.sndR Tryz.underlying36 rfl info_sound ?_)
  | (go_at_call 55;refine (samples_ok M1.s 1 _ HSF.out (by decide)).mono ?_;rintro e w2 ⟨v2,rfl,hs2,hb2⟩;have HB2:=hid hb2;have HS2:=hid (HY.out.kept hb2);clear hs2 hb2)
  | (refine wpList_store_mid rfl 36 _ _ rfl F.g 45 (sndL (M1.s.ticks 1)).toArray rfl rfl (Bx.there HS2.out.bx 45 16 (by rw [Fx.len];omega)) info_sound (all16 (M1.s.ticks 1)) ?_
     refine Pl.cutL (GW F W { M1 with s:=M1.s.ticks 1 } tk) ⟨HS2.out.puts (M':={ M1 with s:=M1.s.ticks 1 }) (tk':=tk) 45 (sndL (M1.s.ticks 1)) (by simp [sndL]) (F.putSnd M1 tk _) ⟨rfl,rfl,rfl,rfl,rfl⟩ { HS2.out.fit with main:=HS2.out.fit.main,s:=(Sd.ticks_fit HSF.out 1).took,w:=(Sd.ticks_fit HSF.out 1).w },Bt.sets HY.out.nd (sndL (M1.s.ticks 1)) 45 _ (Bt.kept HYT.out HY.out.big HB2.out)⟩ ?_
     intro Z hZ
     have HZ:=hid hZ.1
     have HZT:=hid hZ.2
     clear hZ))
 obtain ⟨M2,hM2⟩:∃ M2:Mach,M2={ M1 with s:=M1.s.ticks 1 }:=⟨_,rfl⟩
 rw [<- hM2] at HZ
 have HM2:=hid hM2
 have b0:=HZ.out.at 61 (.int .i64 M2.b.l) rfl
 have b1:=HZ.out.at 62 (.int .i64 M2.b.a) rfl
 have b2:=HZ.out.at 63 (.bool M2.b.g) rfl
 have b3:=HZ.out.at 64 (.int .i64 M2.b.f) rfl
 have ff:=HZ.out.bx.f
 have hg:=HZ.out.bx.z
 clear hM2 HY HYT HB2 HS2
 go_upto_region 3 with (go_at_call 56;refine (Lk.run1 M2.b _ HZ.out.fit.b).mono ?_;rintro e w3 ⟨x3,rfl,hb3⟩;obtain ⟨k3,f3⟩:=bcell hb3;have z3:F.g < w3.heap.size:=lt_old hg hb3 (by simp))
 refine Pl.cutW (GW F W { M2 with b:=M2.b.one } tk) ⟨(HZ.out.kept hb3).puts (M':={ M2 with b:=M2.b.one }) (tk':=tk) 61 [.int .i64 M2.b.one.l,.int .i64 M2.b.one.a,.bool M2.b.one.g,.int .i64 M2.b.one.f] (by simp) rfl ⟨rfl,rfl,rfl,rfl,rfl⟩ { HZ.out.fit with main:=HZ.out.fit.main,b:=Bem.one_ok HZ.out.fit.b },Bt.sets HZ.out.nd [.int .i64 M2.b.one.l,.int .i64 M2.b.one.a,.bool M2.b.one.g,.int .i64 M2.b.one.f] 61 _ (Bt.kept HZT.out HZ.out.big hb3)⟩ ?_
 intro V hV
 obtain ⟨M3,hM3⟩:∃ M3:Mach,M3={ M2 with b:=M2.b.one }:=⟨_,rfl⟩
 rw [<- hM3] at hV
 have HV:=hid hV.1
 have HVT:=hid hV.2
 have hE:M.goOn={ M3 with clock:=M3.clock+1 }:=by
  rw [hM3,HM2.out,HM1.out,HT1.out];rfl
 have HE:=hid hE
 have hcl3:0<=M3.clock/\M3.clock<=200000:=by rw [hM3,HM2.out,HM1.out];exact hcl
 have d0:=HV.out.at 72 (.int .i64 M3.clock) rfl
 have df:=HV.out.bx.f 72
 have dz:=HV.out.bx.z
 have hwr:IntKind.i64.wrap (M3.clock+1)=M3.clock+1:=by rw [IntKind.wrap_i64];omega
 clear hV hM3 hE hb3 k3 f3 z3 b0 b1 b2 b3 ff hg HZ HZT hcl
 go_wp2
 go_end0
 refine ⟨rfl,?_,Bt.set HV.out.nd HVT.out 72 _⟩
 rw [HE.out]
 exact HV.out.put 72 _ (by omega) rfl ⟨rfl,rfl,rfl,rfl,rfl⟩ (by rw [<- HE.out];exact HFF.out)
end
end Go.Proofs.YtbhpfkjfijdmaaaGreatDoor
