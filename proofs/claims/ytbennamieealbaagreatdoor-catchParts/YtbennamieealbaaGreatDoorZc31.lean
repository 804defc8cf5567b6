/-
  Parts of a proof, joined.
-/
import Derived.Test.YtbennamieealbaaGreatDoorZc30
import Derived.Test.YtbennamieealbaaGreatDoorZc29
import Derived.Test.YtbennamieealbaaGreatDoorZc16
import Derived.Test.YtbennamieealbaaGreatDoorZc14
set_option linter.unusedVariables false
set_option maxRecDepth 100000
set_option maxHeartbeats 1600000
namespace Go.Proofs.YtbennamieealbaaGreatDoor.C
section
variable {σ : Type} {m : Mem σ}
theorem cyc_pos:∀ k,k<32->k≠30->1<=K.cyc k:=by decide
theorem step_pos (hb:∀ s a,0<=(m.rd s a).1/\(m.rd s a).1<=255) (c:Cpu) (s:σ) (r:Bool):1<=(step m c s r).n:=by
 unfold step
 split
 ·exact show (1:Int)<=6 by decide
 ·split
  ·exact show (1:Int)<=1 by decide
  ·have hw:0<=word1 m c s/\word1 m c s<=65535:=by
    show 0<=(m.rd s c.PC).1*256+(m.rd (m.rd s c.PC).2 ((c.PC+1)%65536)).1/\(m.rd s c.PC).1*256+(m.rd (m.rd s c.PC).2 ((c.PC+1)%65536)).1<=65535
    have h1:=hb s c.PC
    have h2:=hb (m.rd s c.PC).2 ((c.PC+1)%65536)
    omega
   have hk:O.rk (word1 m c s)<32/\O.rk (word1 m c s)≠30:=by unfold O.rk O.rOp;omega
   have hc:=cyc_pos _ hk.1 hk.2
   unfold order
   rcases act_n (m:=m) { behind m c s with n:=K.cyc (O.rk (word1 m c s)) } (O.rk (word1 m c s)) (O.rD (word1 m c s)) (O.rS (word1 m c s)) (O.rN (word1 m c s)) (O.rW (word1 m c s) (word2 m c s)) with e|e
   ·rw [e];exact hc
   ·rw [e]
    show 1<=K.cyc (O.rk (word1 m c s))+1
    omega
end
end Go.Proofs.YtbennamieealbaaGreatDoor.C
namespace Go.Proofs.YtbennamieealbaaGreatDoor
open Go.ChangeShapes Go.WideShapes Go.ChangeAt Go.RowKit
theorem zke (M:Mach) (a:Int):(M.rdA a).2.mready=M.mready:=by
 unfold Mach.rdA
 split
 ·unfold Mach.portA
  split <;> rfl
 ·rfl
theorem zkf (M:Mach) (a n:Int):(M.wrA a n).mready=M.mready:=by
 unfold Mach.wrA
 split
 ·unfold Mach.putA
  split
  ·rfl
  ·split <;> rfl
 ·unfold Mach.memA
  split
  ·rfl
  ·split
   ·rfl
   ·split
    ·split <;> rfl
    ·rfl
theorem zex (s:Bst):s.stepAux.M.mready=s.M.mready:=by
 unfold Bst.stepAux
 split
 ·rfl
 ·show (C.step auxMem s.M.aux s s.M.rung).s.M.mready=s.M.mready
  exact C.keeps_step (m:=auxMem) (P:=λx=>x.M.mready=s.M.mready) (λx a h=>(zke x.M a).trans h) (λx a b h=>(zkf x.M a _).trans h) _ _ _ rfl
theorem zey (s:Bst):s.M.clock<s.stepMain.M.mready:=by
 by_cases h:s.M.clock<s.M.mready
 ·rw [zc0 s h];exact h
 ·have hc:=zbd s
  have e:s.stepMain=(λy:C.St Bst=>(⟨{ y.s.M with main:=y.c,mready:=y.s.M.clock+3*y.n+y.s.n },y.s.n,y.s.l⟩:Bst)) (C.step mainMem s.M.main ⟨s.M,0,s.l⟩ (s.M.t.g || s.M.b.g)):=by
   unfold Bst.stepMain;rw [if_neg h]
  have hn:=C.step_pos (m:=mainMem) (λs a=>⟨Int.emod_nonneg _ (by decide),by show (s.M.rdM a).1%256<=255;omega⟩) s.M.main ⟨s.M,0,s.l⟩ (s.M.t.g || s.M.b.g)
  have ht:0<=(C.step mainMem s.M.main ⟨s.M,0,s.l⟩ (s.M.t.g || s.M.b.g)).s.n :=
   C.keeps_step (m:=mainMem) (P:=λx=>0<=x.n) (λx a h=>h) (λx a b h=>by
    have:=(ziw a (b%256) ⟨Int.emod_nonneg _ (by decide),by omega⟩).1
    show 0<=x.n+tookM a (b%256)
    omega) _ _ _ (Int.le_refl 0)
  rw [e] at hc ⊢
  revert hc hn ht
  generalize C.step mainMem s.M.main ⟨s.M,0,s.l⟩ (s.M.t.g || s.M.b.g)=y
  intro hc hn ht
  have hc':y.s.M.clock=s.M.clock:=hc
  show s.M.clock<y.s.M.clock+3*y.n+y.s.n
  omega
theorem zgx (s:Bst):s.stepAux.M.held=true \/ s.M.clock<s.stepAux.M.aready:=by
 by_cases h1:s.M.held=true
 ·rw [zdr s h1];exact Or.inl h1
 ·right
  by_cases h:s.M.clock<s.M.aready
  ·rw [zds s h];exact h
  ·have hc:=zbX s
   have e:s.stepAux=(λy:C.St Bst=>(⟨{ y.s.M with aux:=y.c,aready:=y.s.M.clock+5*y.n },y.s.n,y.s.l⟩:Bst)) (C.step auxMem s.M.aux s s.M.rung):=by
    unfold Bst.stepAux;rw [if_neg (λhx=>hx.elim h1 h)]
   have hn:=C.step_pos (m:=auxMem) (λs a=>⟨Int.emod_nonneg _ (by decide),by show (s.M.rdA a).1%256<=255;omega⟩) s.M.aux s s.M.rung
   rw [e] at hc ⊢
   revert hc hn
   generalize C.step auxMem s.M.aux s s.M.rung=y
   intro hc hn
   have hc':y.s.M.clock=s.M.clock:=hc
   show s.M.clock<y.s.M.clock+5*y.n
   omega
theorem zc1 (k:Cs):k.now.s.M.clock<k.now.s.M.mready/\(k.now.s.M.held=true \/ k.now.s.M.clock<k.now.s.M.aready):=by
 obtain ⟨s,hs⟩:∃ s:Bst,s=⟨k.s.M.pressed k.co,k.s.n,k.s.l⟩:=⟨_,rfl⟩
 have e:k.now.s=s.stepMain.stepAux:=by rw [hs];rfl
 rw [e,zbX,zbd,zex]
 refine ⟨zey s,?_⟩
 have h:=zgx s.stepMain
 rw [zbd] at h
 exact h
theorem zed (M:Mach):∀ (l:List Inp) (x:Inp) (r:List Inp),M.coming l=x::r->M.clock<x.c
 | [],x,r,h=>by cases h
 | y::l,x,r,h=>by
  unfold Mach.coming at h
  split at h
  ·exact zed M l x r h
  ·rename_i hy
   cases h
   omega
/-! ### when something is due next -/
def never:Int:=9223372036854775807
def Cs.nxP (q:Cs):Int:=match q.co with
 | []=>never
 | x::_=>x.c
def Mach.sleeps (M:Mach):Bool:=M.main.Waits && !((M.t.g || M.b.g) && M.main.May)
def Mach.sleepsA (M:Mach):Bool:=M.aux.Waits && !(M.rung && M.aux.May)
def Mach.nxM (M:Mach):Int:=if M.sleeps=false then M.mready else if (M.main.May && M.t.on)=true then M.clock+(M.t.c+1) else never
def Mach.nxA (M:Mach):Int:=if (M.held || M.sleepsA)=true then never else M.aready
def Cs.nxt (q:Cs) (e:Int):Int:=min (min (min (min e q.nxP) (q.s.M.clock+(64-q.s.M.b.a))) q.s.M.nxM) q.s.M.nxA
theorem zmW {q:Cs} {e:Int} (hr:q.s.M.clock<q.s.M.mready) (ha:q.s.M.held=true \/ q.s.M.clock<q.s.M.aready) (hcm:∀ x r,q.co=x::r->q.s.M.clock<x.c) (he:q.s.M.clock<e) (hE:e<=200000) (hb:BOk q.s.M.b.l q.s.M.b.a q.s.M.b.f) (ht:(0<=q.s.M.t.r/\q.s.M.t.r<=65535)/\(0<=q.s.M.t.c/\q.s.M.t.c<=65535)) (hs:q.s.M.s.fit) (hc0:0<=q.s.M.clock) :
 ∃ d:Nat,1<=d/\q.nxt e=q.s.M.clock+d/\q.s.M.clock+d<=e/\Idle q d:=by
 have hP:q.s.M.clock<q.nxP:=by
  unfold Cs.nxP
  split
  ·unfold never;omega
  ·rename_i x r h;exact hcm x r h
 have hM:q.s.M.clock<q.s.M.nxM:=by
  unfold Mach.nxM never
  split
  ·exact hr
  ·split <;> omega
 have hA:q.s.M.clock<q.s.M.nxA:=by
  unfold Mach.nxA never
  split
  ·omega
  ·rename_i h
   rcases ha with ha|ha
   ·rw [ha] at h;simp at h
   ·exact ha
 have h0:=hb.a0;have h1:=hb.a1
 have n1:q.nxt e<=e/\q.nxt e<=q.nxP/\q.nxt e<=q.s.M.clock+(64-q.s.M.b.a)/\q.nxt e<=q.s.M.nxM/\q.nxt e<=q.s.M.nxA/\q.s.M.clock<q.nxt e:=by unfold Cs.nxt;omega
 obtain ⟨m1,m2,m3,m4,m5,m6⟩:=n1
 refine ⟨(q.nxt e-q.s.M.clock).toNat,by omega,by omega,by omega,⟨?_,by omega,hr,?_,?_,hb,ht,hs⟩⟩
 ·cases hco:q.co with
  | nil=>exact Or.inl rfl
  | cons x r =>
   refine Or.inr ⟨x,r,rfl,?_⟩
   unfold Cs.nxP at m2
   rw [hco] at m2
   have m2':q.nxt e<=x.c:=m2
   omega
 ·unfold Mach.nxM at m4
  split at m4
  ·exact Or.inl (by omega)
  ·rename_i hsl
   right
   unfold Mach.sleeps at hsl
   have hw:q.s.M.main.Waits=true/\((q.s.M.t.g || q.s.M.b.g) && q.s.M.main.May)=false:=by
    cases e1:q.s.M.main.Waits <;> cases e2:((q.s.M.t.g || q.s.M.b.g) && q.s.M.main.May) <;> simp_all
   refine ⟨hw.1,?_⟩
   cases e1:q.s.M.main.May
   ·exact Or.inl rfl
   ·right
    have h2:=hw.2
    rw [e1,Bool.and_true] at h2
    refine ⟨h2,λhon=>?_⟩
    rw [e1,hon,if_pos (show (true && true)=true from rfl)] at m4
    omega
 ·unfold Mach.nxA at m5
  cases e1:q.s.M.held
  ·right
   rcases ha with ha|ha
   ·rw [e1] at ha;cases ha
   ·refine ⟨ha,?_⟩
    split at m5
    ·rename_i hsl
     right
     rw [e1,Bool.false_or] at hsl
     unfold Mach.sleepsA at hsl
     cases e2:q.s.M.aux.Waits <;> cases e3:(q.s.M.rung && q.s.M.aux.May) <;> simp_all
    ·exact Or.inl (by omega)
  ·exact Or.inl rfl
theorem zoU {k:Cs} {e:Int} (he:k.now.s.M.clock<e) (hE:e<=200000) (hb:BOk k.now.s.M.b.l k.now.s.M.b.a k.now.s.M.b.f) (ht:(0<=k.now.s.M.t.r/\k.now.s.M.t.r<=65535)/\(0<=k.now.s.M.t.c/\k.now.s.M.t.c<=65535)) (hs:k.now.s.M.s.fit) (hc0:0<=k.now.s.M.clock) :
 ∃ d:Nat,1<=d/\k.now.nxt e=k.now.s.M.clock+d/\k.now.s.M.clock+d<=e/\Idle k.now d :=
 zmW (zc1 k).1 (zc1 k).2 (λx r h=>by rw [za9];exact zed _ _ x r h) he hE hb ht hs hc0
theorem zqV {k0 kc:Cs} {j d:Nat} (h:Cs.like [] [] [] (k0.clocks j) kc) (h1:1<=d) (hI:Idle kc.now d):Cs.like [] [] [] (k0.clocks (j+d)) (kc.now.lat d):=by
 obtain ⟨i,rfl⟩:∃ i,d=i+1:=⟨d-1,by omega⟩
 rw [zdb]
 exact zfk (zcA h (i+1)) (zfl kc hI i (by omega))
def Bem.run (b:Bem) (d:Int):Bem:=if bok b.l b.a b.f then b.lat d else ⟨0,0,false,0⟩
def Bem.tol (b:Bem):Int:=if bok b.l b.a b.f then 64-b.a else 1
theorem zpJ {b:Bem} (h:BOr b.l b.a b.f):1<=b.tol/\b.tol<=64:=by
 have:=h.a0;have:=h.a1
 unfold Bem.tol
 split <;> omega
theorem zqW {b:Bem} (h:BOr b.l b.a b.f) {d:Int} (h0:0<=d) (h1:d<=64):BOr (b.run d).l (b.run d).a (b.run d).f:=by
 unfold Bem.run
 split
 ·rename_i hb
  have hk:=(zax _ _ _).1 hb
  have:=hk.l0;have:=hk.l1;have:=hk.a0;have:=hk.a1;have:=hk.f0;have:=hk.f1
  refine ⟨?_,?_,?_,?_,?_,?_⟩ <;> simp only [Bem.lat,bmL,bmA,bmF] <;> omega
 ·exact ⟨by decide,by decide,by decide,by decide,by decide,by decide⟩
theorem zqX (b:Bem):1+(if bok b.one.l b.one.a b.one.f=true then (64-b.one.a)%64 else 0)=b.tol:=by
 by_cases h:bok b.l b.a b.f=true
 ·have e:b.one=⟨bmL b.l b.a 1,bmA b.l b.a 1,bmG b.l b.a b.g 1,bmF b.l b.a b.f 1⟩:=by unfold Bem.one;rw [if_pos h]
  have hk:=(zax _ _ _).1 h
  have:=hk.l0;have:=hk.l1;have:=hk.a0;have:=hk.a1;have:=hk.f0;have:=hk.f1
  rw [e]
  dsimp only
  unfold Bem.tol
  rw [if_pos h]
  split
  ·unfold bmA;omega
  ·rename_i hn
   by_cases ha:b.a=63
   ·omega
   ·exact absurd ((zax _ _ _).2 ⟨by unfold bmL;omega,by unfold bmL;omega,by unfold bmA;omega,by unfold bmA;omega,by unfold bmF;omega,by unfold bmF;omega⟩) hn
 ·have e:b.one=⟨0,0,false,0⟩:=by unfold Bem.one;rw [if_neg h]
  rw [e]
  unfold Bem.tol
  rw [if_neg h]
  decide
def Cs.nxtG (q:Cs) (e:Int):Int:=min (min (min (min e q.nxP) (q.s.M.clock+q.s.M.b.tol)) q.s.M.nxM) q.s.M.nxA
theorem zqY {q:Cs} (e:Int) (h:BOk q.s.M.b.l q.s.M.b.a q.s.M.b.f):q.nxtG e=q.nxt e:=by
 unfold Cs.nxtG Cs.nxt Bem.tol
 rw [if_pos ((zax _ _ _).2 h)]
theorem zoV {q:Cs} {e:Int} (hr:q.s.M.clock<q.s.M.mready) (ha:q.s.M.held=true \/ q.s.M.clock<q.s.M.aready) (hcm:∀ x r,q.co=x::r->q.s.M.clock<x.c) (he:q.s.M.clock<e) (hE:e<=200000) (hb:BOr q.s.M.b.l q.s.M.b.a q.s.M.b.f) (ht:0<=q.s.M.t.c) :
 q.s.M.clock<q.nxtG e/\q.nxtG e<=e/\q.nxtG e<=q.s.M.clock+64:=by
 have hP:q.s.M.clock<q.nxP:=by
  unfold Cs.nxP
  split
  ·unfold never;omega
  ·rename_i x r h;exact hcm x r h
 have hM:q.s.M.clock<q.s.M.nxM:=by
  unfold Mach.nxM never
  split
  ·exact hr
  ·split <;> omega
 have hA:q.s.M.clock<q.s.M.nxA:=by
  unfold Mach.nxA never
  split
  ·omega
  ·rename_i h
   rcases ha with ha|ha
   ·rw [ha] at h;simp at h
   ·exact ha
 have h0:=zpJ hb
 unfold Cs.nxtG
 omega
theorem zqZ {k:Cs} {e:Int} (he:k.now.s.M.clock<e) (hE:e<=200000) (hb:BOr k.now.s.M.b.l k.now.s.M.b.a k.now.s.M.b.f) (ht:0<=k.now.s.M.t.c) :
 k.now.s.M.clock<k.now.nxtG e/\k.now.nxtG e<=e/\k.now.nxtG e<=k.now.s.M.clock+64 :=
 zoV (zc1 k).1 (zc1 k).2 (λx r h=>by rw [za9];exact zed _ _ x r h) he hE hb ht
/-! ### each part by itself -/
def Mach.cA (M:Mach) (tt:Int):Mach:={ M with mready:=slept M.mready tt 3 }
def Mach.cB (M:Mach) (tt:Int):Mach:={ M with aready:=if M.held then M.aready else slept M.aready tt 5 }
def Mach.cT (M:Mach) (tt:Int):Mach:={ M with t:=M.t.run (tt-M.clock) }
def Mach.cE (M:Mach) (tt:Int):Mach:={ M with b:=M.b.run (tt-M.clock) }
def Mach.cS (M:Mach) (tt:Int):Mach:={ M with s:=M.s.ticks (tt-M.clock).toNat }
def Mach.cC (M:Mach) (tt:Int):Mach:={ M with clock:=tt }
def Mach.latT (M:Mach) (tt:Int):Mach:={ M with mready:=slept M.mready tt 3,aready:=if M.held then M.aready else slept M.aready tt 5,t:=M.t.run (tt-M.clock),b:=M.b.run (tt-M.clock),s:=M.s.ticks (tt-M.clock).toNat,clock:=tt }
theorem zkg (M:Mach) (tt:Int):(((((M.cA tt).cB tt).cT tt).cE tt).cS tt).cC tt=M.latT tt:=by
 unfold Mach.cC Mach.cS Mach.cE Mach.cT Mach.cB Mach.cA Mach.latT
 rfl
def Cs.latT (q:Cs) (tt:Int):Cs:={ q with s:=⟨q.s.M.latT tt,q.s.n,q.s.l⟩,sm:=q.sm++q.s.M.smp (tt-q.s.M.clock).toNat }
def Cs.event (k:Cs) (e:Int):Cs:=k.now.latT (k.now.nxtG e)
theorem zoW {q:Cs} (d:Nat) (h:BOk q.s.M.b.l q.s.M.b.a q.s.M.b.f):q.latT (q.s.M.clock+d)=q.lat d:=by
 have e1:q.s.M.clock+(d:Int)-q.s.M.clock=d:=by omega
 have e2:q.s.M.b.run d=q.s.M.b.lat d:=by unfold Bem.run;rw [if_pos ((zax _ _ _).2 h)]
 have e3:(d:Int).toNat=d:=by omega
 unfold Cs.latT Cs.lat Mach.latT Mach.lat
 rw [e1,e2,e3]
theorem zjm {r c y m:Int} (hy:0<y) (h0:0<=r) (hm:r<=m) (hc:c+y<=m):0<=slept r c y/\slept r c y<=m:=by
 unfold slept
 split
 ·omega
 ·have h1:=Int.emod_add_mul_ediv (c-r+y-1) y
  have h2:=Int.emod_lt_of_pos (c-r+y-1) hy
  have h3:=Int.emod_nonneg (c-r+y-1) (show y≠0 by omega)
  rw [Int.mul_comm] at h1
  omega
section
variable {M : Mach} {tt : Int}
theorem zsm (h:M.fit) (h1:tt<=M.clock+64):(M.cA tt).fit:=by
 have e1:=h.mready;have e2:=h.clock
 have e3:0<=slept M.mready tt 3/\slept M.mready tt 3<=M.clock+20000:=zjm (by decide) (by omega) (by omega) (by omega)
 exact { h with main:=h.main,mready:=e3 }
theorem zsn (h:M.fit) (h1:tt<=M.clock+64):(M.cB tt).fit:=by
 have e1:=h.aready;have e2:=h.clock
 have e3:0<=(if M.held then M.aready else slept M.aready tt 5)/\(if M.held then M.aready else slept M.aready tt 5)<=M.clock+20000:=by
  split
  ·assumption
  ·exact zjm (by decide) (by omega) (by omega) (by omega)
 exact { h with main:=h.main,aready:=e3 }
theorem zso (h:M.fit) (h0:M.clock<=tt):(M.cT tt).fit:={ h with main:=h.main,tc:=rn_bd _ _ _ _ h.tr h.tc (by omega) }
theorem zsp (h:M.fit) (h0:M.clock<=tt) (h1:tt<=M.clock+64):(M.cE tt).fit:={ h with main:=h.main,b:=zqW h.b (by omega) (by omega) }
theorem zsq (h:M.fit) (h0:M.clock<=tt) (h1:tt<=200000):(M.cC tt).fit:={ h with main:=h.main,clock:=by have:=h.clock;exact ⟨show 0<=tt by omega,h1⟩,mready:=by have:=h.mready;exact ⟨this.1,show M.mready<=tt+20000 by omega⟩,aready:=by have:=h.aready;exact ⟨this.1,show M.aready<=tt+20000 by omega⟩ }
end
/-! ### a run from event tt event is one clock by clock -/
def Pok (k0:Cs) (n:Nat) (k:Cs):Prop:=∃ j:Nat,j<=n/\Cs.like [] [] [] (k0.clocks j) k/\k.s.M.clock=k0.s.M.clock+j
theorem Pok.zero (k0:Cs) (n:Nat):Pok k0 n k0:=⟨0,Nat.zero_le _,zmQ _,by simp⟩
theorem Pok.step {k0 k:Cs} {n:Nat} (h:Pok k0 n k) (hb:BOk k0.s.M.b.l k0.s.M.b.a k0.s.M.b.f) (hf:k0.s.M.b.f<=19900) (hn:n<=20000) (hE:k0.s.M.clock+n<=200000) (hlt:k.s.M.clock<k0.s.M.clock+n) (hfit:k.now.s.M.fit):Pok k0 n (k.event (k0.s.M.clock+n)):=by
 obtain ⟨j,hj,hl,hc⟩:=h
 have hr:=zb5 k0 hb hf j (by omega)
 have ha:=zhR k
 have hM:=hl.s.M
 have hB:BOk k.now.s.M.b.l k.now.s.M.b.a k.now.s.M.b.f:=by
  refine ⟨hfit.b.l0,hfit.b.l1,hfit.b.a0,hfit.b.a1,hfit.b.f0,?_⟩
  rw [ha.f,<- hM,hr.f]
  have:=hb.l0;have:=hb.l1;have:=hb.a0;have:=hb.a1
  unfold bmF
  omega
 have hs:k.now.s.M.s.fit:={ hfit.s with w:=hfit.w }
 have hck:=za9 k
 have hc0:=hfit.clock.1
 obtain ⟨d,d1,d2,d3,d4⟩:=zoU (k:=k) (e:=k0.s.M.clock+n) (by omega) hE hB ⟨hfit.tr,hfit.tc⟩ hs hc0
 have he:k.event (k0.s.M.clock+n)=k.now.lat d:=by
  unfold Cs.event
  rw [zqY _ hB,d2,zoW d hB]
 refine ⟨j+d,by omega,?_,?_⟩
 ·rw [he]
  exact zqV hl d1 d4
 ·rw [he]
  show k.now.s.M.clock+(d:Int)=_
  rw [hck,hc]
  push_cast
  omega
theorem Pok.bd {F:Fx} {N:Nat} (hF:Fb F N) {k0 k:Cs} {n:Nat} (h:Pok k0 n k) (h0:k0.s.l=[]/\k0.ln=[]/\k0.sm=[]) (hn:n<=20000):k.ln.length<=20000/\k.sm.length<=20000/\k.s.l.length<=80000:=by
 obtain ⟨j,hj,hl,hc⟩:=h
 have ht:=zd9 hF k0 (by rw [h0.1];simp) j (by omega)
 have e1:(k0.clocks j).ln=k.ln:=by simpa using hl.ln
 have e2:(k0.clocks j).sm=k.sm:=by simpa using hl.sm
 have e3:(k0.clocks j).s.l=k.s.l:=by simpa using hl.s.l
 have t1:=ht.ln;have t2:=ht.sm;have t3:=ht.l
 rw [e1,h0.2.1] at t1
 rw [e2,h0.2.2] at t2
 rw [e3,h0.1] at t3
 simp only [List.length_nil] at t1 t2 t3
 omega
theorem Pok.fin {k0 k:Cs} {n:Nat} (h:Pok k0 n k) (he:¬ k.s.M.clock<k0.s.M.clock+n):Cs.like [] [] [] (k0.clocks n) k:=by
 obtain ⟨j,hj,hl,hc⟩:=h
 have:j=n:=by omega
 rw [<- this];exact hl
theorem keep4 {W w1:World} {b:Nat} {r c:Int} {on g:Bool} (h:W.cell? ⟨b,0,none⟩=some (.int .u16 r)/\W.cell? ⟨b,1,none⟩=some (.int .u16 c)/\W.cell? ⟨b,2,none⟩=some (.bool on)/\W.cell? ⟨b,3,none⟩=some (.bool g)) (hb:Below W.heap.size W w1) :
 w1.cell? ⟨b,0,none⟩=some (.int .u16 r)/\w1.cell? ⟨b,1,none⟩=some (.int .u16 c)/\w1.cell? ⟨b,2,none⟩=some (.bool on)/\w1.cell? ⟨b,3,none⟩=some (.bool g):=by
 have hz:=World.block_lt_of_cell? W _ h.1
 exact ⟨(hb.cell (p:=⟨b,0,none⟩) hz).trans h.1,(hb.cell (p:=⟨b,1,none⟩) hz).trans h.2.1,(hb.cell (p:=⟨b,2,none⟩) hz).trans h.2.2.1,(hb.cell (p:=⟨b,3,none⟩) hz).trans h.2.2.2⟩
theorem zq0 (r c n:Int) (on g:Bool) (w:World) (hr:0<=r/\r<=65535) (hc:0<=c/\c<=65535) (hn:0<=n/\n<=20000) :
 Calls Tryz.prog 106 #[.agg #[.int .u16 r,.int .u16 c,.bool on,.bool g],.int .i64 n] w λe w'=>e = .returned (.tuple #[.agg #[.int .u16 r,.int .u16 (rnC r c on n),.bool on,.bool (rnG c on g n)],.int .i64 0])/\Below w.heap.size w w':=by
 cases on
 ·go_enter Tryz.func106,Tryz.ntmps106
  go_wp2
  go_region_held3 (λw'=>w'.cell? ⟨w.heap.size,0,none⟩=some (.int .u16 r)/\w'.cell? ⟨w.heap.size,1,none⟩=some (.int .u16 c)/\w'.cell? ⟨w.heap.size,2,none⟩=some (.bool false)/\w'.cell? ⟨w.heap.size,3,none⟩=some (.bool g))
   (first
     | with_reducible exact keep4 (by assumption) (by assumption)
     | (go_keep;done))
   (first
   | (go_at_call 189;refine (zhG _ _).mono ?_;rintro e w0 ⟨rfl,rfl⟩)
   | (go_at_call 114;refine (zgg _ _ _ _ _).mono ?_;rintro e w1 ⟨rfl,hb1⟩;obtain ⟨k1,f1⟩:=bcell hb1;have z1:w.heap.size+1<w1.heap.size:=Nat.lt_of_lt_of_le (by simp) hb1.size))
  go_wp2
  have hX:=resT (stp (stA (st0 ((w.alloc (.cells #[.int .u16 r,.int .u16 c,.bool false,.bool g] 31)).alloc (.cells #[.int .u16 0,.int .u16 0,.bool false,.bool false] 31))) _).drew hb1)
  have hF:=fin4 r c false g hX.1 hX.2
  refine Pl.cutB (λY=>Below w.heap.size w Y/\Y.rangeAt (w.heap.size+1) 0 [.int .u16 r,.int .u16 c,.bool false,.bool g]) hF ?_
  rintro Y ⟨hY,hR⟩
  have hl:=zaP Y _ _ _ _ _ hR
  refine bodyPost_ret (v:=.tuple #[.agg #[.int .u16 r,.int .u16 c,.bool false,.bool g],.int .i64 0]) ?_ rfl ⟨rfl,hY⟩
  simp only [results,Tryz.results106]
  simp
  show (Result.andThen (Sem.run Tryz.prog (loadVar 31 ⟨w.heap.size+1,0,none⟩) Y) _)=_
  rw [hl]
  rfl
 ·go_enter Tryz.func106,Tryz.ntmps106
  go_wp2
  go_region_held3 (λw'=>w'.cell? ⟨w.heap.size,0,none⟩=some (.int .u16 r)/\w'.cell? ⟨w.heap.size,1,none⟩=some (.int .u16 c)/\w'.cell? ⟨w.heap.size,2,none⟩=some (.bool true)/\w'.cell? ⟨w.heap.size,3,none⟩=some (.bool g))
   (first
     | with_reducible exact keep4 (by assumption) (by assumption)
     | (go_keep;done))
   (first
   | (go_at_call 189;refine (zhG _ _).mono ?_;rintro e w0 ⟨rfl,rfl⟩)
   | (go_at_call 114;refine (zjR _ _ _ _ _ _ hr hc hn (Pl.new _ _ _ _ (by simp)) (by simp)).mono ?_;rintro e w1 ⟨rfl,hb1⟩;obtain ⟨k1,f1⟩:=bcell hb1;have z1:w.heap.size+1<w1.heap.size:=Nat.lt_of_lt_of_le (by simp) hb1.size))
  go_wp2
  have hX:=resT (stp (stA (st0 ((w.alloc (.cells #[.int .u16 r,.int .u16 c,.bool true,.bool g] 31)).alloc (.cells #[.int .u16 0,.int .u16 0,.bool false,.bool false] 31))) _).drew hb1)
  have hF:=fin4 r (rnC r c true n) true (rnG c true g n) hX.1 hX.2
  refine Pl.cutB (λY=>Below w.heap.size w Y/\Y.rangeAt (w.heap.size+1) 0 [.int .u16 r,.int .u16 (rnC r c true n),.bool true,.bool (rnG c true g n)]) hF ?_
  rintro Y ⟨hY,hR⟩
  have hl:=zaP Y _ _ _ _ _ hR
  refine bodyPost_ret (v:=.tuple #[.agg #[.int .u16 r,.int .u16 (rnC r c true n),.bool true,.bool (rnG c true g n)],.int .i64 0]) ?_ rfl ⟨rfl,hY⟩
  simp only [results,Tryz.results106]
  simp
  show (Result.andThen (Sem.run Tryz.prog (loadVar 31 ⟨w.heap.size+1,0,none⟩) Y) _)=_
  rw [hl]
  rfl
structure Bat (W : World) (b : Nat) (l a : Int) (g : Bool) (f : Int) : Prop where
 z:b<W.heap.size
 c0:W.cell? ⟨b,0,none⟩=some (.int .i64 l)
 c1:W.cell? ⟨b,1,none⟩=some (.int .i64 a)
 c2:W.cell? ⟨b,2,none⟩=some (.bool g)
 c3:W.cell? ⟨b,3,none⟩=some (.int .i64 f)
 f:∀ o,W.frozen? ⟨b,o,none⟩=false
section
variable {W w1 : World} {b : Nat} {l a f : Int} {g : Bool}
theorem Bat.kept (h:Bat W b l a g f) (hb:Below W.heap.size W w1):Bat w1 b l a g f :=
 ⟨Nat.lt_of_lt_of_le h.z hb.size,(hb.cell (p:=⟨b,0,none⟩) h.z).trans h.c0,(hb.cell (p:=⟨b,1,none⟩) h.z).trans h.c1,(hb.cell (p:=⟨b,2,none⟩) h.z).trans h.c2,(hb.cell (p:=⟨b,3,none⟩) h.z).trans h.c3,λo=>(hb.frozen (p:=⟨b,o,none⟩) h.z).trans (h.f o)⟩
theorem Bat.over (h:Bat W b l a g f) (o:Obj):Bat (W.alloc o) b l a g f:=h.kept (stA (st0 W) o)
theorem Bat.new (W:World) (l a:Int) (g:Bool) (f:Int):Bat (W.alloc (.cells #[.int .i64 l,.int .i64 a,.bool g,.int .i64 f] 38)) W.heap.size l a g f :=
 ⟨by simp,Pl.new _ _ _ _ rfl,Pl.new _ _ _ _ rfl,Pl.new _ _ _ _ rfl,Pl.new _ _ _ _ rfl,λo=>Lib.frozen_of_heap (heap_alloc_new W _) o⟩
theorem Bat.far (h:Bat W b l a g f) {b' o':Nat} (hne:b'≠b) (v:Value):Bat (W.setCell ⟨b',o',none⟩ v) b l a g f:=by
 have e:∀ o,(W.setCell ⟨b',o',none⟩ v).cell? ⟨b,o,none⟩=W.cell? ⟨b,o,none⟩:=λo=>World.cell?_setCell_far W _ _ v hne
 exact ⟨by simpa using h.z,(e 0).trans h.c0,(e 1).trans h.c1,(e 2).trans h.c2,(e 3).trans h.c3,λo=>by simpa using h.f o⟩
theorem Bat.put2 (h:Bat W b l a g f) (g':Bool):Bat (W.setCell ⟨b,2,none⟩ (.bool g')) b l a g' f:=by
 have e:∀ o,o≠2->(W.setCell ⟨b,2,none⟩ (.bool g')).cell? ⟨b,o,none⟩=W.cell? ⟨b,o,none⟩:=λo ho=>World.cell?_setCell_other _ _ _ _ (by intro e;exact ho (congrArg Addr.off e).symm)
 exact ⟨by simpa using h.z,(e 0 (by omega)).trans h.c0,(e 1 (by omega)).trans h.c1,World.cell?_setCell_same' _ _ _ (by rw [h.c2];rfl),(e 3 (by omega)).trans h.c3,λo=>by simpa using h.f o⟩
theorem Bat.drew (h:Bat W b l a g f):Bat W.drew b l a g f:=⟨h.z,h.c0,h.c1,h.c2,h.c3,h.f⟩
theorem Bat.range (h:Bat W b l a g f):W.rangeAt b 0 [.int .i64 l,.int .i64 a,.bool g,.int .i64 f]:=λj v hj=>by
 rw [Nat.zero_add]
 match j,hj with
 | 0,hj=>rw [h.c0];simpa using hj
 | 1,hj=>rw [h.c1];simpa using hj
 | 2,hj=>rw [h.c2];simpa using hj
 | 3,hj=>rw [h.c3];simpa using hj
theorem Bat.puts (h:Bat W b l a g f) (l' a':Int) (g':Bool) (f':Int):Bat ((((W.setCell ⟨b,0,none⟩ (.int .i64 l')).setCell ⟨b,1,none⟩ (.int .i64 a')).setCell ⟨b,2,none⟩ (.bool g')).setCell ⟨b,3,none⟩ (.int .i64 f')) b l' a' g' f':=by
 have ht:W.there b 0 4:=λj hj=>by
  refine ⟨?_,h.f _⟩
  rw [Nat.zero_add]
  match j,hj with
  | 0,_=>rw [h.c0];rfl
  | 1,_=>rw [h.c1];rfl
  | 2,_=>rw [h.c2];rfl
  | 3,_=>rw [h.c3];rfl
 have hr:=World.rangeAt_setCells_same W b 0 [.int .i64 l',.int .i64 a',.bool g',.int .i64 f'] ht
 simp only [World.setCells,Nat.zero_add,Nat.reduceAdd] at hr
 exact ⟨by simpa using h.z,hr 0 _ rfl,hr 1 _ rfl,hr 2 _ rfl,hr 3 _ rfl,λo=>by simpa using h.f o⟩
theorem Bat.below (h:Bat W b l a g f) {w:World} (hB:Below w.heap.size w W) (hb:w.heap.size<=b) (l' a':Int) (g':Bool) (f':Int):Below w.heap.size w ((((W.setCell ⟨b,0,none⟩ (.int .i64 l')).setCell ⟨b,1,none⟩ (.int .i64 a')).setCell ⟨b,2,none⟩ (.bool g')).setCell ⟨b,3,none⟩ (.int .i64 f')) :=
 (((hB.setCell hb _).setCell hb _).setCell hb _).setCell hb _
end
structure RunB (w : World) (B : Nat) (l a : Int) (g : Bool) (f : Int) (W : World) : Prop where
 low:Below w.heap.size w W
 t:Bat W w.heap.size l a g f
 r:Bat W (w.heap.size+1) 0 0 false 0
 q:W.cell? ⟨B,0,none⟩=some (.int .i64 640)
 z:B<W.heap.size
 ne:w.heap.size<B
theorem RunB.drew {w W:World} {B:Nat} {l a f:Int} {g:Bool} (h:RunB w B l a g f W):RunB w B l a g f W.drew:=⟨h.low.drew,h.t.drew,h.r.drew,h.q,h.z,h.ne⟩
theorem zmX {w w1:World} {l a f:Int} {g x:Bool}
 (hb1:Below ((w.alloc (.cells #[.int .i64 l,.int .i64 a,.bool g,.int .i64 f] 38)).alloc (.cells #[.int .i64 0,.int .i64 0,.bool false,.int .i64 0] 38)).heap.size ((w.alloc (.cells #[.int .i64 l,.int .i64 a,.bool g,.int .i64 f] 38)).alloc (.cells #[.int .i64 0,.int .i64 0,.bool false,.int .i64 0] 38)) w1) :
 RunB w (w1.heap.size+1) l a x f (((w1.setCell ⟨w.heap.size,2,none⟩ (.bool x)).alloc (.cells #[.int .i64 512] 3)).alloc (.cells #[.int .i64 640] 3)):=by
 have hB:=stp (stA (stA (st0 w) _) _) hb1
 have ht:=((Bat.new w l a g f).over (.cells #[.int .i64 0,.int .i64 0,.bool false,.int .i64 0] 38)).kept hb1
 have hr0:=Bat.new (w.alloc (.cells #[.int .i64 l,.int .i64 a,.bool g,.int .i64 f] 38)) 0 0 false 0
 have e:(w.alloc (.cells #[.int .i64 l,.int .i64 a,.bool g,.int .i64 f] 38)).heap.size=w.heap.size+1:=by simp
 rw [e] at hr0
 have hr:=hr0.kept hb1
 refine ⟨stA (stA (hB.setCell (Nat.le_refl _) _) _) _,((ht.put2 x).over _).over _,((hr.far (by omega) _).over _).over _,Pl.new _ _ _ _ (by simp),by simp,?_⟩
 have:=ht.z
 omega
theorem Bm.resB {w w1:World} {l a f:Int} {g:Bool}
 (hb1:Below ((w.alloc (.cells #[.int .i64 l,.int .i64 a,.bool g,.int .i64 f] 38)).alloc (.cells #[.int .i64 0,.int .i64 0,.bool false,.int .i64 0] 38)).heap.size ((w.alloc (.cells #[.int .i64 l,.int .i64 a,.bool g,.int .i64 f] 38)).alloc (.cells #[.int .i64 0,.int .i64 0,.bool false,.int .i64 0] 38)) w1) :
 Below w.heap.size w ((((w1.setCell ⟨w.heap.size+1,0,none⟩ (.int .i64 0)).setCell ⟨w.heap.size+1,1,none⟩ (.int .i64 0)).setCell ⟨w.heap.size+1,2,none⟩ (.bool false)).setCell ⟨w.heap.size+1,3,none⟩ (.int .i64 0))/\((((w1.setCell ⟨w.heap.size+1,0,none⟩ (.int .i64 0)).setCell ⟨w.heap.size+1,1,none⟩ (.int .i64 0)).setCell ⟨w.heap.size+1,2,none⟩ (.bool false)).setCell ⟨w.heap.size+1,3,none⟩ (.int .i64 0)).rangeAt (w.heap.size+1) 0 [.int .i64 0,.int .i64 0,.bool false,.int .i64 0]:=by
 have hB:=stp (stA (stA (st0 w) _) _) hb1
 have hr0:=Bat.new (w.alloc (.cells #[.int .i64 l,.int .i64 a,.bool g,.int .i64 f] 38)) 0 0 false 0
 have e:(w.alloc (.cells #[.int .i64 l,.int .i64 a,.bool g,.int .i64 f] 38)).heap.size=w.heap.size+1:=by simp
 rw [e] at hr0
 have hr:=hr0.kept hb1
 exact ⟨hr.below hB (by omega) 0 0 false 0,(hr.puts 0 0 false 0).range⟩
theorem RunB.all {w W:World} {B:Nat} {l a f:Int} {g:Bool} (h:RunB w B l a g f W):W.cell? ⟨w.heap.size,3,none⟩=some (.int .i64 f)/\W.frozen? ⟨w.heap.size,3,none⟩=false/\RunB w B l a g f W:=⟨h.t.c3,h.t.f 3,h⟩
theorem RunB.fin {w W:World} {B:Nat} {l a f:Int} {x:Bool} (h:RunB w B l a x f W) (l' a' f':Int) :
 Below w.heap.size w (((((((W.setCell ⟨w.heap.size,3,none⟩ (.int .i64 f')).setCell ⟨w.heap.size,0,none⟩ (.int .i64 l')).setCell ⟨w.heap.size,1,none⟩ (.int .i64 a')).setCell ⟨w.heap.size+1,0,none⟩ (.int .i64 l')).setCell ⟨w.heap.size+1,1,none⟩ (.int .i64 a')).setCell ⟨w.heap.size+1,2,none⟩ (.bool x)).setCell ⟨w.heap.size+1,3,none⟩ (.int .i64 f')).drew/\(((((((W.setCell ⟨w.heap.size,3,none⟩ (.int .i64 f')).setCell ⟨w.heap.size,0,none⟩ (.int .i64 l')).setCell ⟨w.heap.size,1,none⟩ (.int .i64 a')).setCell ⟨w.heap.size+1,0,none⟩ (.int .i64 l')).setCell ⟨w.heap.size+1,1,none⟩ (.int .i64 a')).setCell ⟨w.heap.size+1,2,none⟩ (.bool x)).setCell ⟨w.heap.size+1,3,none⟩ (.int .i64 f')).drew.rangeAt (w.heap.size+1) 0 [.int .i64 l',.int .i64 a',.bool x,.int .i64 f']:=by
 have hb:=((h.low.setCell (p:=⟨w.heap.size,3,none⟩) (Nat.le_refl _) (.int .i64 f')).setCell (p:=⟨w.heap.size,0,none⟩) (Nat.le_refl _) (.int .i64 l')).setCell (p:=⟨w.heap.size,1,none⟩) (Nat.le_refl _) (.int .i64 a')
 have hr:=((h.r.far (by omega) (.int .i64 f') (o':=3) (b':=w.heap.size)).far (by omega) (.int .i64 l') (o':=0) (b':=w.heap.size)).far (by omega) (.int .i64 a') (o':=1) (b':=w.heap.size)
 exact ⟨(hr.below hb (by omega) l' a' x f').drew,(hr.puts l' a' x f').drew.range⟩
theorem zfm (l a f n:Int) (g:Bool) (w:World) (h:BOk l a f) (hn:0<=n/\n<=20000) :
 Calls Tryz.prog 66 #[.agg #[.int .i64 l,.int .i64 a,.bool g,.int .i64 f],.int .i64 n] w λe w'=>e = .returned (.tuple #[.agg #[.int .i64 (bmL l a n),.int .i64 (bmA l a n),.bool (bmG l a g n),.int .i64 (bmF l a f n)],.int .i64 0])/\Below w.heap.size w w':=by
 have H:=hid h
 have hw:=zcg hn.1 hn.2
 obtain ⟨l0,l1,a0,a1,f0,f1⟩:=h
 obtain ⟨n0,n1⟩:=hn
 have p0:0<=l*64+a:=by omega
 have p1:l*64+a<=639:=by omega
 have m1:Int.tmod (l*64+a+n) 640=(l*64+a+n)%640:=Int.tmod_eq_emod_of_nonneg (by omega)
 have m2:Int.tmod (l*64+a+n) 64=(l*64+a+n)%64:=Int.tmod_eq_emod_of_nonneg (by omega)
 have m3:Int.tdiv ((l*64+a+n)%640) 64=(l*64+a+n)%640/64:=Int.tdiv_eq_ediv_of_nonneg (by omega)
 cases g
 ·go_enter Tryz.func66,Tryz.ntmps66
  go_wp2_with (first
   | (go_at_call 28;refine (zbg l a f _ _ H.out).mono ?_;rintro e w1 ⟨rfl,hb1⟩;obtain ⟨k1,f1⟩:=bcell hb1;have z1:w.heap.size+1<w1.heap.size:=Nat.lt_of_lt_of_le (by simp) hb1.size;have z0:w.heap.size<w1.heap.size:=Nat.lt_of_succ_lt z1)
   | (go_at_call 54;refine (zaT _ _ _).mono ?_;rintro e w0 ⟨rfl,rfl⟩)
   | (go_at_call 119;refine (zdT _ _).mono ?_;rintro e w0 ⟨rfl,rfl⟩)
   | (go_at_call 195;refine (zbE 512 _ w1.heap.size _ (by omega) (by omega) (by simp) (by simp;omega)).mono ?_;rintro e w0 ⟨rfl,rfl⟩))
  have hG:bmG l a false n=decide ((l*64+a+640-512)/640<(l*64+a+n+640-512)/640):=by
   unfold bmG;rw [Bool.false_or,decide_eq_decide];omega
  have HG:=hid hG
  clear hG
  refine Pl.cutW (λW=>RunB w (w1.heap.size+1) l a (bmG l a false n) f W) (by rw [HG.out];exact zmX hb1) ?_
  rintro W hK
  have HK:=hid hK
  clear hK
  generalize hB:w1.heap.size+1=B at *
  clear hb1 k1 f1 z1 z0
  have tz:=HK.out.t.z
  obtain ⟨_,t0,t1,t2,t3,_⟩:=HK.out.t
  have ew:IntKind.i64.wrap (f+(l*64+a+n)/640)=f+(l*64+a+n)/640:=by rw [IntKind.wrap_i64];omega
  obtain ⟨_,r0,r1,r2,r3,_⟩:=HK.out.r
  have tf:=HK.out.t.f
  have rz:=HK.out.r.z
  have rf:=HK.out.r.f
  go_region_with ((go_at_call 195;refine (zbE 640 _ B _ (by omega) (by omega) (by first|exact HK.out.q|exact HK.out.drew.q) (by first|exact HK.out.z|exact HK.out.drew.z)).mono ?_;rintro e w0 ⟨rfl,rfl⟩))
  all_goals go_wp2
  all_goals
   have hF:=HK.out.fin ((l*64+a+n)%640/64) ((l*64+a+n)%64) (f+(l*64+a+n)/640)
   refine Pl.cutB (λY=>Below w.heap.size w Y/\Y.rangeAt (w.heap.size+1) 0 [.int .i64 (bmL l a n),.int .i64 (bmA l a n),.bool (bmG l a false n),.int .i64 (bmF l a f n)]) hF ?_
   rintro Y ⟨hY,hR⟩
   have hl:=zcM Y _ _ _ _ _ hR
   refine bodyPost_ret (v:=.tuple #[.agg #[.int .i64 (bmL l a n),.int .i64 (bmA l a n),.bool (bmG l a false n),.int .i64 (bmF l a f n)],.int .i64 0]) ?_ rfl ⟨rfl,hY⟩
   simp only [results,Tryz.results66]
   simp
   show (Result.andThen (Sem.run Tryz.prog (loadVar 38 ⟨w.heap.size+1,0,none⟩) Y) _)=_
   rw [hl]
   rfl
 ·go_enter Tryz.func66,Tryz.ntmps66
  go_wp2_with (first
   | (go_at_call 28;refine (zbg l a f _ _ H.out).mono ?_;rintro e w1 ⟨rfl,hb1⟩;obtain ⟨k1,f1⟩:=bcell hb1;have z1:w.heap.size+1<w1.heap.size:=Nat.lt_of_lt_of_le (by simp) hb1.size;have z0:w.heap.size<w1.heap.size:=Nat.lt_of_succ_lt z1)
   | (go_at_call 54;refine (zaT _ _ _).mono ?_;rintro e w0 ⟨rfl,rfl⟩)
   | (go_at_call 119;refine (zdT _ _).mono ?_;rintro e w0 ⟨rfl,rfl⟩)
   | (go_at_call 195;refine (zbE 512 _ w1.heap.size _ (by omega) (by omega) (by simp) (by simp;omega)).mono ?_;rintro e w0 ⟨rfl,rfl⟩))
  have hG:bmG l a true n=true:=by unfold bmG;rw [Bool.true_or]
  have HG:=hid hG
  clear hG
  refine Pl.cutW (λW=>RunB w (w1.heap.size+1) l a (bmG l a true n) f W) (by rw [HG.out];exact zmX hb1) ?_
  rintro W hK
  have HK:=hid hK
  clear hK
  generalize hB:w1.heap.size+1=B at *
  clear hb1 k1 f1 z1 z0
  have tz:=HK.out.t.z
  obtain ⟨_,t0,t1,t2,t3,_⟩:=HK.out.t
  have ew:IntKind.i64.wrap (f+(l*64+a+n)/640)=f+(l*64+a+n)/640:=by rw [IntKind.wrap_i64];omega
  obtain ⟨_,r0,r1,r2,r3,_⟩:=HK.out.r
  have tf:=HK.out.t.f
  have rz:=HK.out.r.z
  have rf:=HK.out.r.f
  go_region_with ((go_at_call 195;refine (zbE 640 _ B _ (by omega) (by omega) (by first|exact HK.out.q|exact HK.out.drew.q) (by first|exact HK.out.z|exact HK.out.drew.z)).mono ?_;rintro e w0 ⟨rfl,rfl⟩))
  all_goals go_wp2
  all_goals
   have hF:=HK.out.fin ((l*64+a+n)%640/64) ((l*64+a+n)%64) (f+(l*64+a+n)/640)
   refine Pl.cutB (λY=>Below w.heap.size w Y/\Y.rangeAt (w.heap.size+1) 0 [.int .i64 (bmL l a n),.int .i64 (bmA l a n),.bool (bmG l a true n),.int .i64 (bmF l a f n)]) hF ?_
   rintro Y ⟨hY,hR⟩
   have hl:=zcM Y _ _ _ _ _ hR
   refine bodyPost_ret (v:=.tuple #[.agg #[.int .i64 (bmL l a n),.int .i64 (bmA l a n),.bool (bmG l a true n),.int .i64 (bmF l a f n)],.int .i64 0]) ?_ rfl ⟨rfl,hY⟩
   simp only [results,Tryz.results66]
   simp
   show (Result.andThen (Sem.run Tryz.prog (loadVar 38 ⟨w.heap.size+1,0,none⟩) Y) _)=_
   rw [hl]
   rfl
theorem zfn (l a f n:Int) (g:Bool) (w:World) (h:¬ BOk l a f \/ (BOk l a f /\ ¬ (0<=n/\n<=20000))) :
 Calls Tryz.prog 66 #[.agg #[.int .i64 l,.int .i64 a,.bool g,.int .i64 f],.int .i64 n] w λe w'=>e = .returned (.tuple #[.agg #[.int .i64 0,.int .i64 0,.bool false,.int .i64 0],.int .i64 3])/\Below w.heap.size w w':=by
 rcases h with h|⟨h,hn⟩
 ·have H:=hid h
  clear h
  go_enter Tryz.func66,Tryz.ntmps66
  go_wp2_with (go_at_call 28;refine (zcv l a f _ _ H.out).mono ?_;rintro e w1 ⟨rfl,hb1⟩;obtain ⟨k1,f1⟩:=bcell hb1;have z1:w.heap.size+1<w1.heap.size:=Nat.lt_of_lt_of_le (by simp) hb1.size;have z0:w.heap.size<w1.heap.size:=Nat.lt_of_succ_lt z1)
  refine Pl.cutB (λY=>Below w.heap.size w Y/\Y.rangeAt (w.heap.size+1) 0 [.int .i64 0,.int .i64 0,.bool false,.int .i64 0]) (Bm.resB hb1) ?_
  rintro Y ⟨hY,hR⟩
  have hl:=zcM Y _ _ _ _ _ hR
  refine bodyPost_ret (v:=.tuple #[.agg #[.int .i64 0,.int .i64 0,.bool false,.int .i64 0],.int .i64 3]) ?_ rfl ⟨rfl,hY⟩
  simp only [results,Tryz.results66]
  simp
  show (Result.andThen (Sem.run Tryz.prog (loadVar 38 ⟨w.heap.size+1,0,none⟩) Y) _)=_
  rw [hl]
  rfl
 ·have H:=hid h
  have hw:=zge hn
  clear h hn
  go_enter Tryz.func66,Tryz.ntmps66
  go_wp2_with (first
   | (go_at_call 28;refine (zbg l a f _ _ H.out).mono ?_;rintro e w1 ⟨rfl,hb1⟩;obtain ⟨k1,f1⟩:=bcell hb1;have z1:w.heap.size+1<w1.heap.size:=Nat.lt_of_lt_of_le (by simp) hb1.size;have z0:w.heap.size<w1.heap.size:=Nat.lt_of_succ_lt z1)
   | (go_at_call 54;refine (zaT _ _ _).mono ?_;rintro e w0 ⟨rfl,rfl⟩))
  refine Pl.cutB (λY=>Below w.heap.size w Y/\Y.rangeAt (w.heap.size+1) 0 [.int .i64 0,.int .i64 0,.bool false,.int .i64 0]) (Bm.resB hb1) ?_
  rintro Y ⟨hY,hR⟩
  have hl:=zcM Y _ _ _ _ _ hR
  refine bodyPost_ret (v:=.tuple #[.agg #[.int .i64 0,.int .i64 0,.bool false,.int .i64 0],.int .i64 3]) ?_ rfl ⟨rfl,hY⟩
  simp only [results,Tryz.results66]
  simp
  show (Result.andThen (Sem.run Tryz.prog (loadVar 38 ⟨w.heap.size+1,0,none⟩) Y) _)=_
  rw [hl]
  rfl
end Go.Proofs.YtbennamieealbaaGreatDoor
