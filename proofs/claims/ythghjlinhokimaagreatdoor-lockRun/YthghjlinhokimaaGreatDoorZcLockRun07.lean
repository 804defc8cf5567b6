/-
  For every machine, anything that is pressed and every number the law LockRun of the program returns true and leaves its arguments as they were; the listed library variables are as the tied card says.
-/
import Derived.Test.YthghjlinhokimaaGreatDoorZcA
import Derived.Test.YthghjlinhokimaaGreatDoorZcLockRun05
import Derived.Test.YthghjlinhokimaaGreatDoorZcLockRun06
set_option linter.all false
set_option maxRecDepth 100000
namespace Go.Proofs.YthghjlinhokimaaGreatDoor
open Go.ChangeShapes Go.WideShapes Go.ChangeAt Go.RowKit Go.Proofs.Tryz
theorem zwR{M:Mach}{l:List Inp}{n:Int}(h:bF M l n=0):M.chk=0/\chkIn l M.clock=0/\0<=n/\n<=20000/\M.clock+n<=200000:=by
 unfold bF at h;split at h
 ·rename_i h1
  split at h
  ·rename_i h2
   split at h
   ·rename_i h3
    exact⟨h1,h2,h3⟩
   ·cases h
  ·rename_i h2
   exact absurd h h2
 ·rename_i h1
  exact absurd h h1
theorem zuu{M:Mach}{v:Value}{l:List Inp}{n:Nat}{K:Cs}(h:K=Cs.clocks ⟨⟨M,0,[]⟩,l,[],[]⟩ n)(i:∀ x∈l,0<=x.d/\x.d<=255)(j:M.fit)(c:M.b.f<=20000)(hc:chkIn l M.clock=0)(k:n<=20000/\M.clock+n<=200000):nA 9 M K.s.M v l n 0 K.ln K.sm K.s.l:=λS1 W m o g=>by
 refine(zej M S1 v l n W m o.shapes g i j c hc k).mono ?_;rw[<- h];rintro e w' ⟨F,N,vln,vsm,vw,rfl,a,_,_,_,hb⟩;obtain⟨a1,p,c1,e1⟩:=mi a.ln;obtain⟨a2,q,c2,e2⟩:=mi a.sm;obtain⟨a3,r,c3,e3⟩:=mi a.ws;subst e1 e2 e3;exact⟨F.S,a1,a2,a3,p,q,r,c1,c2,c3,U,a.sl,zvl a,hb⟩
theorem zj8:iP:=by
 intro H enc W base v0 k v2 P d1 d2 p0 p1 p2 a z t0 B E F t2;obtain⟨M,S,rfl,c,m,R⟩:=zj5 z t0;obtain⟨l,g,I,h⟩:=zdE B E;obtain⟨n,rfl,_,_,L⟩:=kA underlying3 F t2;have q:=jk L;have r:=zj7 t0 a.2.2 m.lens;by_cases o:bF M l n=0
 ·obtain⟨i,hc,a0,a1,a2⟩:=zwR o
  obtain⟨N,rfl⟩:=aB a0;have y:=rq c i;obtain⟨K,t⟩:∃ K,K=Cs.clocks ⟨⟨M,0,[]⟩,l,[],[]⟩ N:=⟨_,U⟩
  have u:N<=20000/\M.clock+N<=200000:=⟨by omega,a2⟩
  have e:=zuu (v:=k) t (λx p=>(h x p).d) y (zfE i) hc u;by_cases j:19000<M.b.f
  ·exact zsh M S k l N W a.1 a.2.1 m r c g q o j e.some
  ·have w:=zeG ⟨⟨M,0,[]⟩,l,[],[]⟩ ⟨U,U,U⟩ N u.1
   rw[<- t] at w;exact zsi M S k l N W a.1 a.2.1 m r c g q o j K.s.M K.ln K.sm K.s.l (by omega) e (zsf t y (λx p=>⟨(qx l _ (qB hc).2 x p).1,(h x p).d⟩) hc u (by omega))
 ·exact zsg M S k l n W a.1 a.2.1 m r c g q o
theorem lockRun_holds:Rows.LockRunCardSaid:=zjv zj8
end Go.Proofs.YthghjlinhokimaaGreatDoor
