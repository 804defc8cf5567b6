/-
  Parts of a proof, joined.
-/
import Derived.Test.YtbennamieealbaaGreatDoorZg38
import Derived.Test.YtbennamieealbaaGreatDoorZg35
import Derived.Test.YtbennamieealbaaGreatDoorZg36
import Derived.Test.YtbennamieealbaaGreatDoorZg01
import Derived.Test.YtbennamieealbaaGreatDoorZg34
set_option linter.unusedVariables false
set_option maxRecDepth 100000
namespace Go.Proofs.YtbennamieealbaaGreatDoor.C
section
variable {σ : Type} {m : Mem σ}
theorem cyc_pos:∀ k,k<32->k≠30->1<=K.cyc k:=by decide
theorem step_pos (hb:∀ s a,0<=(m.rd s a).1/\(m.rd s a).1<=255) (c:Cpu) (s:σ) (r:Bool):1<=(step m c s r).n:=by
 unfold step
 split
 ·exact show (1:Int)<=6 by decide
 ·split
  ·exact show (1:Int)<=1 by decide
  ·have hw:0<=word1 m c s/\word1 m c s<=65535:=by
    show 0<=(m.rd s c.PC).1*256+(m.rd (m.rd s c.PC).2 ((c.PC+1)%65536)).1/\(m.rd s c.PC).1*256+(m.rd (m.rd s c.PC).2 ((c.PC+1)%65536)).1<=65535
    have h1:=hb s c.PC
    have h2:=hb (m.rd s c.PC).2 ((c.PC+1)%65536)
    omega
   have hk:O.rk (word1 m c s)<32/\O.rk (word1 m c s)≠30:=by unfold O.rk O.rOp;omega
   have hc:=cyc_pos _ hk.1 hk.2
   unfold order
   rcases act_n (m:=m) { behind m c s with n:=K.cyc (O.rk (word1 m c s)) } (O.rk (word1 m c s)) (O.rD (word1 m c s)) (O.rS (word1 m c s)) (O.rN (word1 m c s)) (O.rW (word1 m c s) (word2 m c s)) with e|e
   ·rw [e];exact hc
   ·rw [e]
    show 1<=K.cyc (O.rk (word1 m c s))+1
    omega
end
end Go.Proofs.YtbennamieealbaaGreatDoor.C
namespace Go.Proofs.YtbennamieealbaaGreatDoor
open Go.ChangeShapes Go.WideShapes Go.ChangeAt Go.RowKit
theorem zh0 (M:Mach) (a:Int):(M.rdA a).2.mready=M.mready:=by
 unfold Mach.rdA
 split
 ·unfold Mach.portA
  split <;> rfl
 ·rfl
theorem zh1 (M:Mach) (a n:Int):(M.wrA a n).mready=M.mready:=by
 unfold Mach.wrA
 split
 ·unfold Mach.putA
  split
  ·rfl
  ·split <;> rfl
 ·unfold Mach.memA
  split
  ·rfl
  ·split
   ·rfl
   ·split
    ·split <;> rfl
    ·rfl
theorem zed (s:Bst):s.stepAux.M.mready=s.M.mready:=by
 unfold Bst.stepAux
 split
 ·rfl
 ·show (C.step auxMem s.M.aux s s.M.rung).s.M.mready=s.M.mready
  exact C.keeps_step (m:=auxMem) (P:=λx=>x.M.mready=s.M.mready) (λx a h=>(zh0 x.M a).trans h) (λx a b h=>(zh1 x.M a _).trans h) _ _ _ rfl
theorem zee (s:Bst):s.M.clock<s.stepMain.M.mready:=by
 by_cases h:s.M.clock<s.M.mready
 ·rw [zcA s h];exact h
 ·have hc:=za7 s
  have e:s.stepMain=(λy:C.St Bst=>(⟨{ y.s.M with main:=y.c,mready:=y.s.M.clock+3*y.n+y.s.n },y.s.n,y.s.l⟩:Bst)) (C.step mainMem s.M.main ⟨s.M,0,s.l⟩ (s.M.t.g || s.M.b.g)):=by
   unfold Bst.stepMain;rw [if_neg h]
  have hn:=C.step_pos (m:=mainMem) (λs a=>⟨Int.emod_nonneg _ (by decide),by show (s.M.rdM a).1%256<=255;omega⟩) s.M.main ⟨s.M,0,s.l⟩ (s.M.t.g || s.M.b.g)
  have ht:0<=(C.step mainMem s.M.main ⟨s.M,0,s.l⟩ (s.M.t.g || s.M.b.g)).s.n :=
   C.keeps_step (m:=mainMem) (P:=λx=>0<=x.n) (λx a h=>h) (λx a b h=>by
    have:=(zgu a (b%256) ⟨Int.emod_nonneg _ (by decide),by omega⟩).1
    show 0<=x.n+tookM a (b%256)
    omega) _ _ _ (Int.le_refl 0)
  rw [e] at hc ⊢
  revert hc hn ht
  generalize C.step mainMem s.M.main ⟨s.M,0,s.l⟩ (s.M.t.g || s.M.b.g)=y
  intro hc hn ht
  have hc':y.s.M.clock=s.M.clock:=hc
  show s.M.clock<y.s.M.clock+3*y.n+y.s.n
  omega
theorem zfv (s:Bst):s.stepAux.M.held=true \/ s.M.clock<s.stepAux.M.aready:=by
 by_cases h1:s.M.held=true
 ·rw [zcZ s h1];exact Or.inl h1
 ·right
  by_cases h:s.M.clock<s.M.aready
  ·rw [zc0 s h];exact h
  ·have hc:=zbG s
   have e:s.stepAux=(λy:C.St Bst=>(⟨{ y.s.M with aux:=y.c,aready:=y.s.M.clock+5*y.n },y.s.n,y.s.l⟩:Bst)) (C.step auxMem s.M.aux s s.M.rung):=by
    unfold Bst.stepAux;rw [if_neg (λhx=>hx.elim h1 h)]
   have hn:=C.step_pos (m:=auxMem) (λs a=>⟨Int.emod_nonneg _ (by decide),by show (s.M.rdA a).1%256<=255;omega⟩) s.M.aux s s.M.rung
   rw [e] at hc ⊢
   revert hc hn
   generalize C.step auxMem s.M.aux s s.M.rung=y
   intro hc hn
   have hc':y.s.M.clock=s.M.clock:=hc
   show s.M.clock<y.s.M.clock+5*y.n
   omega
theorem zcB (k:Cs):k.now.s.M.clock<k.now.s.M.mready/\(k.now.s.M.held=true \/ k.now.s.M.clock<k.now.s.M.aready):=by
 obtain ⟨s,hs⟩:∃ s:Bst,s=⟨k.s.M.pressed k.co,k.s.n,k.s.l⟩:=⟨_,rfl⟩
 have e:k.now.s=s.stepMain.stepAux:=by rw [hs];rfl
 rw [e,zbG,za7,zed]
 refine ⟨zee s,?_⟩
 have h:=zfv s.stepMain
 rw [za7] at h
 exact h
theorem zdG (M:Mach):∀ (l:List Inp) (x:Inp) (r:List Inp),M.coming l=x::r->M.clock<x.c
 | [],x,r,h=>by cases h
 | y::l,x,r,h=>by
  unfold Mach.coming at h
  split at h
  ·exact zdG M l x r h
  ·rename_i hy
   cases h
   omega
/-! ### when something is due next -/
def never:Int:=9223372036854775807
def Cs.nxP (q:Cs):Int:=match q.co with
 | []=>never
 | x::_=>x.c
def Mach.sleeps (M:Mach):Bool:=M.main.Waits && !((M.t.g || M.b.g) && M.main.May)
def Mach.sleepsA (M:Mach):Bool:=M.aux.Waits && !(M.rung && M.aux.May)
def Mach.nxM (M:Mach):Int:=if M.sleeps=false then M.mready else if (M.main.May && M.t.on)=true then M.clock+(M.t.c+1) else never
def Mach.nxA (M:Mach):Int:=if (M.held || M.sleepsA)=true then never else M.aready
def Cs.nxt (q:Cs) (e:Int):Int:=min (min (min (min e q.nxP) (q.s.M.clock+(64-q.s.M.b.a))) q.s.M.nxM) q.s.M.nxA
theorem zkw {q:Cs} {e:Int} (hr:q.s.M.clock<q.s.M.mready) (ha:q.s.M.held=true \/ q.s.M.clock<q.s.M.aready) (hcm:∀ x r,q.co=x::r->q.s.M.clock<x.c) (he:q.s.M.clock<e) (hE:e<=200000) (hb:BOk q.s.M.b.l q.s.M.b.a q.s.M.b.f) (ht:(0<=q.s.M.t.r/\q.s.M.t.r<=65535)/\(0<=q.s.M.t.c/\q.s.M.t.c<=65535)) (hs:q.s.M.s.fit) (hc0:0<=q.s.M.clock) :
 ∃ d:Nat,1<=d/\q.nxt e=q.s.M.clock+d/\q.s.M.clock+d<=e/\Idle q d:=by
 have hP:q.s.M.clock<q.nxP:=by
  unfold Cs.nxP
  split
  ·unfold never;omega
  ·rename_i x r h;exact hcm x r h
 have hM:q.s.M.clock<q.s.M.nxM:=by
  unfold Mach.nxM never
  split
  ·exact hr
  ·split <;> omega
 have hA:q.s.M.clock<q.s.M.nxA:=by
  unfold Mach.nxA never
  split
  ·omega
  ·rename_i h
   rcases ha with ha|ha
   ·rw [ha] at h;simp at h
   ·exact ha
 have h0:=hb.a0;have h1:=hb.a1
 have n1:q.nxt e<=e/\q.nxt e<=q.nxP/\q.nxt e<=q.s.M.clock+(64-q.s.M.b.a)/\q.nxt e<=q.s.M.nxM/\q.nxt e<=q.s.M.nxA/\q.s.M.clock<q.nxt e:=by unfold Cs.nxt;omega
 obtain ⟨m1,m2,m3,m4,m5,m6⟩:=n1
 refine ⟨(q.nxt e-q.s.M.clock).toNat,by omega,by omega,by omega,⟨?_,by omega,hr,?_,?_,hb,ht,hs⟩⟩
 ·cases hco:q.co with
  | nil=>exact Or.inl rfl
  | cons x r =>
   refine Or.inr ⟨x,r,rfl,?_⟩
   unfold Cs.nxP at m2
   rw [hco] at m2
   have m2':q.nxt e<=x.c:=m2
   omega
 ·unfold Mach.nxM at m4
  split at m4
  ·exact Or.inl (by omega)
  ·rename_i hsl
   right
   unfold Mach.sleeps at hsl
   have hw:q.s.M.main.Waits=true/\((q.s.M.t.g || q.s.M.b.g) && q.s.M.main.May)=false:=by
    cases e1:q.s.M.main.Waits <;> cases e2:((q.s.M.t.g || q.s.M.b.g) && q.s.M.main.May) <;> simp_all
   refine ⟨hw.1,?_⟩
   cases e1:q.s.M.main.May
   ·exact Or.inl rfl
   ·right
    have h2:=hw.2
    rw [e1,Bool.and_true] at h2
    refine ⟨h2,λhon=>?_⟩
    rw [e1,hon,if_pos (show (true && true)=true from rfl)] at m4
    omega
 ·unfold Mach.nxA at m5
  cases e1:q.s.M.held
  ·right
   rcases ha with ha|ha
   ·rw [e1] at ha;cases ha
   ·refine ⟨ha,?_⟩
    split at m5
    ·rename_i hsl
     right
     rw [e1,Bool.false_or] at hsl
     unfold Mach.sleepsA at hsl
     cases e2:q.s.M.aux.Waits <;> cases e3:(q.s.M.rung && q.s.M.aux.May) <;> simp_all
    ·exact Or.inl (by omega)
  ·exact Or.inl rfl
theorem zmh {k:Cs} {e:Int} (he:k.now.s.M.clock<e) (hE:e<=200000) (hb:BOk k.now.s.M.b.l k.now.s.M.b.a k.now.s.M.b.f) (ht:(0<=k.now.s.M.t.r/\k.now.s.M.t.r<=65535)/\(0<=k.now.s.M.t.c/\k.now.s.M.t.c<=65535)) (hs:k.now.s.M.s.fit) (hc0:0<=k.now.s.M.clock) :
 ∃ d:Nat,1<=d/\k.now.nxt e=k.now.s.M.clock+d/\k.now.s.M.clock+d<=e/\Idle k.now d :=
 zkw (zcB k).1 (zcB k).2 (λx r h=>by rw [zbp];exact zdG _ _ x r h) he hE hb ht hs hc0
theorem znT {k0 kc:Cs} {j d:Nat} (h:Cs.like [] [] [] (k0.clocks j) kc) (h1:1<=d) (hI:Idle kc.now d):Cs.like [] [] [] (k0.clocks (j+d)) (kc.now.lat d):=by
 obtain ⟨i,rfl⟩:∃ i,d=i+1:=⟨d-1,by omega⟩
 rw [zcP]
 exact zeD (zca h (i+1)) (zeE kc hI i (by omega))
def Bem.run (b:Bem) (d:Int):Bem:=if bok b.l b.a b.f then b.lat d else ⟨0,0,false,0⟩
def Bem.tol (b:Bem):Int:=if bok b.l b.a b.f then 64-b.a else 1
theorem zmI {b:Bem} (h:BOr b.l b.a b.f):1<=b.tol/\b.tol<=64:=by
 have:=h.a0;have:=h.a1
 unfold Bem.tol
 split <;> omega
theorem znU {b:Bem} (h:BOr b.l b.a b.f) {d:Int} (h0:0<=d) (h1:d<=64):BOr (b.run d).l (b.run d).a (b.run d).f:=by
 unfold Bem.run
 split
 ·rename_i hb
  have hk:=(zax _ _ _).1 hb
  have:=hk.l0;have:=hk.l1;have:=hk.a0;have:=hk.a1;have:=hk.f0;have:=hk.f1
  refine ⟨?_,?_,?_,?_,?_,?_⟩ <;> simp only [Bem.lat,bmL,bmA,bmF] <;> omega
 ·exact ⟨by decide,by decide,by decide,by decide,by decide,by decide⟩
theorem znV (b:Bem):1+(if bok b.one.l b.one.a b.one.f=true then (64-b.one.a)%64 else 0)=b.tol:=by
 by_cases h:bok b.l b.a b.f=true
 ·have e:b.one=⟨bmL b.l b.a 1,bmA b.l b.a 1,bmG b.l b.a b.g 1,bmF b.l b.a b.f 1⟩:=by unfold Bem.one;rw [if_pos h]
  have hk:=(zax _ _ _).1 h
  have:=hk.l0;have:=hk.l1;have:=hk.a0;have:=hk.a1;have:=hk.f0;have:=hk.f1
  rw [e]
  dsimp only
  unfold Bem.tol
  rw [if_pos h]
  split
  ·unfold bmA;omega
  ·rename_i hn
   by_cases ha:b.a=63
   ·omega
   ·exact absurd ((zax _ _ _).2 ⟨by unfold bmL;omega,by unfold bmL;omega,by unfold bmA;omega,by unfold bmA;omega,by unfold bmF;omega,by unfold bmF;omega⟩) hn
 ·have e:b.one=⟨0,0,false,0⟩:=by unfold Bem.one;rw [if_neg h]
  rw [e]
  unfold Bem.tol
  rw [if_neg h]
  decide
def Cs.nxtG (q:Cs) (e:Int):Int:=min (min (min (min e q.nxP) (q.s.M.clock+q.s.M.b.tol)) q.s.M.nxM) q.s.M.nxA
theorem znW {q:Cs} (e:Int) (h:BOk q.s.M.b.l q.s.M.b.a q.s.M.b.f):q.nxtG e=q.nxt e:=by
 unfold Cs.nxtG Cs.nxt Bem.tol
 rw [if_pos ((zax _ _ _).2 h)]
theorem zmi {q:Cs} {e:Int} (hr:q.s.M.clock<q.s.M.mready) (ha:q.s.M.held=true \/ q.s.M.clock<q.s.M.aready) (hcm:∀ x r,q.co=x::r->q.s.M.clock<x.c) (he:q.s.M.clock<e) (hE:e<=200000) (hb:BOr q.s.M.b.l q.s.M.b.a q.s.M.b.f) (ht:0<=q.s.M.t.c) :
 q.s.M.clock<q.nxtG e/\q.nxtG e<=e/\q.nxtG e<=q.s.M.clock+64:=by
 have hP:q.s.M.clock<q.nxP:=by
  unfold Cs.nxP
  split
  ·unfold never;omega
  ·rename_i x r h;exact hcm x r h
 have hM:q.s.M.clock<q.s.M.nxM:=by
  unfold Mach.nxM never
  split
  ·exact hr
  ·split <;> omega
 have hA:q.s.M.clock<q.s.M.nxA:=by
  unfold Mach.nxA never
  split
  ·omega
  ·rename_i h
   rcases ha with ha|ha
   ·rw [ha] at h;simp at h
   ·exact ha
 have h0:=zmI hb
 unfold Cs.nxtG
 omega
theorem znX {k:Cs} {e:Int} (he:k.now.s.M.clock<e) (hE:e<=200000) (hb:BOr k.now.s.M.b.l k.now.s.M.b.a k.now.s.M.b.f) (ht:0<=k.now.s.M.t.c) :
 k.now.s.M.clock<k.now.nxtG e/\k.now.nxtG e<=e/\k.now.nxtG e<=k.now.s.M.clock+64 :=
 zmi (zcB k).1 (zcB k).2 (λx r h=>by rw [zbp];exact zdG _ _ x r h) he hE hb ht
/-! ### each part by itself -/
def Mach.cA (M:Mach) (tt:Int):Mach:={ M with mready:=slept M.mready tt 3 }
def Mach.cB (M:Mach) (tt:Int):Mach:={ M with aready:=if M.held then M.aready else slept M.aready tt 5 }
def Mach.cT (M:Mach) (tt:Int):Mach:={ M with t:=M.t.run (tt-M.clock) }
def Mach.cE (M:Mach) (tt:Int):Mach:={ M with b:=M.b.run (tt-M.clock) }
def Mach.cS (M:Mach) (tt:Int):Mach:={ M with s:=M.s.ticks (tt-M.clock).toNat }
def Mach.cC (M:Mach) (tt:Int):Mach:={ M with clock:=tt }
def Mach.latT (M:Mach) (tt:Int):Mach:={ M with mready:=slept M.mready tt 3,aready:=if M.held then M.aready else slept M.aready tt 5,t:=M.t.run (tt-M.clock),b:=M.b.run (tt-M.clock),s:=M.s.ticks (tt-M.clock).toNat,clock:=tt }
theorem zh2 (M:Mach) (tt:Int):(((((M.cA tt).cB tt).cT tt).cE tt).cS tt).cC tt=M.latT tt:=by
 unfold Mach.cC Mach.cS Mach.cE Mach.cT Mach.cB Mach.cA Mach.latT
 rfl
def Cs.latT (q:Cs) (tt:Int):Cs:={ q with s:=⟨q.s.M.latT tt,q.s.n,q.s.l⟩,sm:=q.sm++q.s.M.smp (tt-q.s.M.clock).toNat }
def Cs.event (k:Cs) (e:Int):Cs:=k.now.latT (k.now.nxtG e)
theorem zmj {q:Cs} (d:Nat) (h:BOk q.s.M.b.l q.s.M.b.a q.s.M.b.f):q.latT (q.s.M.clock+d)=q.lat d:=by
 have e1:q.s.M.clock+(d:Int)-q.s.M.clock=d:=by omega
 have e2:q.s.M.b.run d=q.s.M.b.lat d:=by unfold Bem.run;rw [if_pos ((zax _ _ _).2 h)]
 have e3:(d:Int).toNat=d:=by omega
 unfold Cs.latT Cs.lat Mach.latT Mach.lat
 rw [e1,e2,e3]
theorem zhc {r c y m:Int} (hy:0<y) (h0:0<=r) (hm:r<=m) (hc:c+y<=m):0<=slept r c y/\slept r c y<=m:=by
 unfold slept
 split
 ·omega
 ·have h1:=Int.emod_add_mul_ediv (c-r+y-1) y
  have h2:=Int.emod_lt_of_pos (c-r+y-1) hy
  have h3:=Int.emod_nonneg (c-r+y-1) (show y≠0 by omega)
  rw [Int.mul_comm] at h1
  omega
section
variable {M : Mach} {tt : Int}
theorem zph (h:M.fit) (h1:tt<=M.clock+64):(M.cA tt).fit:=by
 have e1:=h.mready;have e2:=h.clock
 have e3:0<=slept M.mready tt 3/\slept M.mready tt 3<=M.clock+20000:=zhc (by decide) (by omega) (by omega) (by omega)
 exact { h with main:=h.main,mready:=e3 }
theorem zpi (h:M.fit) (h1:tt<=M.clock+64):(M.cB tt).fit:=by
 have e1:=h.aready;have e2:=h.clock
 have e3:0<=(if M.held then M.aready else slept M.aready tt 5)/\(if M.held then M.aready else slept M.aready tt 5)<=M.clock+20000:=by
  split
  ·assumption
  ·exact zhc (by decide) (by omega) (by omega) (by omega)
 exact { h with main:=h.main,aready:=e3 }
theorem zpj (h:M.fit) (h0:M.clock<=tt):(M.cT tt).fit:={ h with main:=h.main,tc:=rn_bd _ _ _ _ h.tr h.tc (by omega) }
theorem zpk (h:M.fit) (h0:M.clock<=tt) (h1:tt<=M.clock+64):(M.cE tt).fit:={ h with main:=h.main,b:=znU h.b (by omega) (by omega) }
theorem zpl (h:M.fit) (h0:M.clock<=tt) (h1:tt<=200000):(M.cC tt).fit:={ h with main:=h.main,clock:=by have:=h.clock;exact ⟨show 0<=tt by omega,h1⟩,mready:=by have:=h.mready;exact ⟨this.1,show M.mready<=tt+20000 by omega⟩,aready:=by have:=h.aready;exact ⟨this.1,show M.aready<=tt+20000 by omega⟩ }
end
/-! ### a run from event tt event is one clock by clock -/
def Pok (k0:Cs) (n:Nat) (k:Cs):Prop:=∃ j:Nat,j<=n/\Cs.like [] [] [] (k0.clocks j) k/\k.s.M.clock=k0.s.M.clock+j
theorem Pok.zero (k0:Cs) (n:Nat):Pok k0 n k0:=⟨0,Nat.zero_le _,zkq _,by simp⟩
theorem Pok.step {k0 k:Cs} {n:Nat} (h:Pok k0 n k) (hb:BOk k0.s.M.b.l k0.s.M.b.a k0.s.M.b.f) (hf:k0.s.M.b.f<=19900) (hn:n<=20000) (hE:k0.s.M.clock+n<=200000) (hlt:k.s.M.clock<k0.s.M.clock+n) (hfit:k.now.s.M.fit):Pok k0 n (k.event (k0.s.M.clock+n)):=by
 obtain ⟨j,hj,hl,hc⟩:=h
 have hr:=zbN k0 hb hf j (by omega)
 have ha:=zf5 k
 have hM:=hl.s.M
 have hB:BOk k.now.s.M.b.l k.now.s.M.b.a k.now.s.M.b.f:=by
  refine ⟨hfit.b.l0,hfit.b.l1,hfit.b.a0,hfit.b.a1,hfit.b.f0,?_⟩
  rw [ha.f,<- hM,hr.f]
  have:=hb.l0;have:=hb.l1;have:=hb.a0;have:=hb.a1
  unfold bmF
  omega
 have hs:k.now.s.M.s.fit:={ hfit.s with w:=hfit.w }
 have hck:=zbp k
 have hc0:=hfit.clock.1
 obtain ⟨d,d1,d2,d3,d4⟩:=zmh (k:=k) (e:=k0.s.M.clock+n) (by omega) hE hB ⟨hfit.tr,hfit.tc⟩ hs hc0
 have he:k.event (k0.s.M.clock+n)=k.now.lat d:=by
  unfold Cs.event
  rw [znW _ hB,d2,zmj d hB]
 refine ⟨j+d,by omega,?_,?_⟩
 ·rw [he]
  exact znT hl d1 d4
 ·rw [he]
  show k.now.s.M.clock+(d:Int)=_
  rw [hck,hc]
  push_cast
  omega
theorem Pok.bd {F:Fx} {N:Nat} (hF:Fb F N) {k0 k:Cs} {n:Nat} (h:Pok k0 n k) (h0:k0.s.l=[]/\k0.ln=[]/\k0.sm=[]) (hn:n<=20000):k.ln.length<=20000/\k.sm.length<=20000/\k.s.l.length<=80000:=by
 obtain ⟨j,hj,hl,hc⟩:=h
 have ht:=zf4 hF k0 (by rw [h0.1];simp) j (by omega)
 have e1:(k0.clocks j).ln=k.ln:=by simpa using hl.ln
 have e2:(k0.clocks j).sm=k.sm:=by simpa using hl.sm
 have e3:(k0.clocks j).s.l=k.s.l:=by simpa using hl.s.l
 have t1:=ht.ln;have t2:=ht.sm;have t3:=ht.l
 rw [e1,h0.2.1] at t1
 rw [e2,h0.2.2] at t2
 rw [e3,h0.1] at t3
 simp only [List.length_nil] at t1 t2 t3
 omega
theorem Pok.fin {k0 k:Cs} {n:Nat} (h:Pok k0 n k) (he:¬ k.s.M.clock<k0.s.M.clock+n):Cs.like [] [] [] (k0.clocks n) k:=by
 obtain ⟨j,hj,hl,hc⟩:=h
 have:j=n:=by omega
 rw [<- this];exact hl
theorem Ct.asleep (c:C.Cpu) (g:Bool) (w:World):Calls Tryz.prog 187 #[.agg (cpuL c).toArray,.bool g] w λe w'=>e = .returned (.bool (c.Waits && !(g && c.May)))/\Below w.heap.size w w':=by
 have hB:=Bx.new w (cpuL c) 25 (b:=w.heap.size) rfl
 have c14:=hB.at 14 (.bool c.Waits) rfl
 have c13:=hB.at 13 (.bool c.May) rfl
 have hz:=hB.z
 obtain ⟨x,hx⟩:∃ x,x=c.Waits:=⟨_,rfl⟩
 obtain ⟨y,hy⟩:∃ y,y=c.May:=⟨_,rfl⟩
 rw [<- hx] at c14 ⊢
 rw [<- hy] at c13 ⊢
 clear hx hy hB
 cases x <;> cases g <;> cases y
 all_goals
  go_enter Tryz.func187,Tryz.ntmps187
  go_wp2
  go_ret
  exact ⟨rfl,stA (st0 w) _⟩
theorem Ct.nextPress {B:Nat} {w:World} {v:Value} (q:Cs) (h:InpAt B w v q.co):Calls Tryz.prog 95 #[v] w λe w'=>e = .returned (.int .i64 q.nxP)/\w=w':=by
 obtain ⟨s,l,ln,sm⟩:=q
 cases l with
 | nil =>
  obtain ⟨a,k,rfl⟩:=h.len
  go_enter Tryz.func95,Tryz.ntmps95
  go_wp2
  go_ret
  exact ⟨rfl,rfl⟩
 | cons x tl =>
  rcases h with ⟨e,_⟩|⟨g,o,cap,rfl,h1,h2,h3,h4⟩
  ·cases e
  ·obtain ⟨y0,_,_⟩:=h4 0 x rfl
   have x0:w.cell? ⟨g,o,none⟩=some (.int .i64 x.c):=y0
   have hq:(((tl.length:Int)+1) == 0)=false:=by simp;omega
   have hlen0:(0:Int)<(tl.length:Int)+1:=by omega
   clear y0 h4 h1 h2
   go_enter Tryz.func95,Tryz.ntmps95
   go_wp2
   go_ret
   exact ⟨rfl,rfl⟩
theorem Ct.toLine (b:Bem) (w:World) (h:BOr b.l b.a b.f):Calls Tryz.prog 97 #[.agg #[.int .i64 b.l,.int .i64 b.a,.bool b.g,.int .i64 b.f]] w λe w'=>e = .returned (.int .i64 b.tol)/\Below w.heap.size w w':=by
 obtain ⟨x,hx⟩:∃ x:Int,x=if bok b.one.l b.one.a b.one.f=true then (64-b.one.a)%64 else 0:=⟨_,rfl⟩
 have hn:∀ w,Calls Tryz.prog 186 #[.agg #[.int .i64 b.one.l,.int .i64 b.one.a,.bool b.one.g,.int .i64 b.one.f]] w λe w'=>(∃ y,e = .returned (.tuple #[.int .i64 x,.int .i64 y]))/\Below w.heap.size w w':=λw=>by
  rw [hx]
  by_cases hk:bok b.one.l b.one.a b.one.f=true
  ·rw [if_pos hk]
   refine (zgf _ _ _ _ w ((zax _ _ _).1 hk)).mono ?_
   rintro e w1 ⟨rfl,hb⟩
   exact ⟨⟨_,rfl⟩,hb⟩
  ·rw [if_neg hk]
   refine (zhj _ _ _ _ w (λy=>hk ((zax _ _ _).2 y))).mono ?_
   rintro e w1 ⟨rfl,hb⟩
   exact ⟨⟨_,rfl⟩,hb⟩
 have hb0:0<=x/\x<=64:=by rw [hx];split <;> omega
 have ht:1+x=b.tol:=by rw [hx];exact znV b
 have hwr:IntKind.i64.wrap (1+x)=1+x:=by rw [IntKind.wrap_i64];omega
 rw [<- ht]
 have H:=hid h
 have HN:=hid hn
 obtain ⟨b1,hb1⟩:∃ b1,b1=b.one:=⟨_,rfl⟩
 have hr:∀ w,Calls Tryz.prog 66 #[.agg #[.int .i64 b.l,.int .i64 b.a,.bool b.g,.int .i64 b.f],.int .i64 1] w λe w'=>∃ x,e = .returned (.tuple #[.agg #[.int .i64 b1.l,.int .i64 b1.a,.bool b1.g,.int .i64 b1.f],.int .i64 x])/\Below w.heap.size w w':=λw=>by
  rw [hb1];exact Lk.run1 b w H.out
 rw [<- hb1] at HN
 have HR:=hid hr
 clear h hn hx ht hr hb1
 go_enter Tryz.func97,Tryz.ntmps97
 go_wp2_with (first
  | (go_at_call 66;refine (HR.out _).mono ?_;rintro e w1 ⟨x1,rfl,hb1⟩;have HB1:=hid hb1;have hz1:w.heap.size<w1.heap.size:=Nat.lt_of_lt_of_le (by simp) hb1.size;clear hb1)
  | (go_at_call 186;refine (HN.out _).mono ?_;rintro e w2 ⟨⟨x2,rfl⟩,hb2⟩;have HB2:=hid hb2;clear hb2))
 go_ret
 exact ⟨rfl,stp (stA (stp (stA (st0 w) _) HB1.out) _) HB2.out⟩
theorem Ct.sleeps (r c y:Int) (hy:y=3 \/ y=5) (hr:0<=r/\r<=1000000) (hc:0<=c/\c<=1000000) (w:World):Calls Tryz.prog 103 #[.int .i64 r,.int .i64 c,.int .i64 y] w λe w'=>e = .returned (.int .i64 (slept r c y))/\w=w':=by
 by_cases h:c<=r
 ·rw [zcz h]
  go_enter Tryz.func103,Tryz.ntmps103
  go_wp2
  go_ret
  exact ⟨rfl,rfl⟩
 ·have hlt:r<c:=by omega
  obtain ⟨d,hd⟩:∃ d,d=(c-r+y-1)/y:=⟨_,rfl⟩
  have hdb:0<=d/\d<=1000000:=by
   rw [hd]
   rcases hy with rfl|rfl <;> omega
  have e0:slept r c y=r+d*y:=by unfold slept;rw [if_neg h,hd]
  rw [e0]
  have e1:Int.tdiv (c-r+y-1) y=d:=by
   rw [hd]
   exact Int.tdiv_eq_ediv_of_nonneg (by rcases hy with rfl|rfl <;> omega)
  have w1:IntKind.i64.wrap (c-r)=c-r:=by rw [IntKind.wrap_i64];omega
  have w2:IntKind.i64.wrap (c-r+y)=c-r+y:=by rw [IntKind.wrap_i64];rcases hy with rfl|rfl <;> omega
  have w3:IntKind.i64.wrap (c-r+y-1)=c-r+y-1:=by rw [IntKind.wrap_i64];rcases hy with rfl|rfl <;> omega
  have w4:IntKind.i64.wrap d=d:=by rw [IntKind.wrap_i64];omega
  have w5:IntKind.i64.wrap (d*y)=d*y:=by rw [IntKind.wrap_i64];rcases hy with rfl|rfl <;> omega
  have w6:IntKind.i64.wrap (r+d*y)=r+d*y:=by rw [IntKind.wrap_i64];rcases hy with rfl|rfl <;> omega
  have hy0:(y == 0)=false:=by rcases hy with rfl|rfl <;> rfl
  clear hd e0 h
  go_enter Tryz.func103,Tryz.ntmps103
  go_wp2
  go_ret
  exact ⟨rfl,rfl⟩
end Go.Proofs.YtbennamieealbaaGreatDoor
