/-
  For every machine, anything that is pressed and every number the law LockRun of the program returns true and leaves its arguments as they were; the listed library variables are as the tied card says.
-/
import Derived.Test.YthghjlinhokimaaGreatDoorZbA
import Derived.Test.YthghjlinhokimaaGreatDoorZbLockRun05
import Derived.Test.YthghjlinhokimaaGreatDoorZbLockRun06
set_option linter.all false
set_option maxRecDepth 100000
open Go.Act renaming put->ag
namespace Go.Proofs.YthghjlinhokimaaGreatDoor
open Go.ChangeShapes Go.WideShapes Go.ChangeAt Go.RowKit Go.Proofs.Tryz
theorem zzN{M:Mach}{l:List Inp}{n:Int}(h:bS M l n=0):M.chk=0/\chkIn l M.clock=0/\0<=n/\n<=20000/\M.clock+n<=200000:=by
 unfold bS at h;split at h
 ·rename_i h1
  split at h
  ·rename_i h2
   split at h
   ·rename_i h3
    exact⟨h1,h2,h3⟩
   ·cases h
  ·rename_i h2
   exact absurd h h2
 ·rename_i h1
  exact absurd h h1
theorem zxh{M:Mach}{v:Value}{l:List Inp}{n:Nat}{K:Cs}(h:K=Cs.clocks ⟨⟨M,0,[]⟩,l,[],[]⟩ n)(i:∀ x∈l,0<=x.d/\x.d<=255)(j:M.fit)(c:M.b.f<=20000)(hc:chkIn l M.clock=0)(k:n<=20000/\M.clock+n<=200000):pW 9 M K.s.M v l n 0 K.ln K.sm K.s.l:=λS1 W m o g=>by
 refine(AV M S1 v l n W m o.shapes g i j c hc k).mono ?_;rw[<- h];rintro e w' ⟨F,N,vln,vsm,vw,rfl,a,_,_,_,hb⟩;obtain⟨a1,p,c1,e1⟩:=ol a.ln;obtain⟨a2,q,c2,e2⟩:=ol a.sm;obtain⟨a3,r,c3,e3⟩:=ol a.ws;subst e1 e2 e3;exact⟨F.S,a1,a2,a3,p,q,r,c1,c2,c3,D,a.sl,zqr a,hb⟩
theorem zlS:lO:=by
 intro H enc W base v0 k v2 I d1 d2 p0 p1 p2 a k0 t0 k1 B k2 t2;obtain⟨M,S,rfl,c,m,L⟩:=zeP k0 t0;obtain⟨l,g,E,h⟩:=AX k1 B;obtain⟨n,rfl,_,_,F⟩:=mc underlying3 k2 t2;have q:=j9 F;have r:=zeQ t0 a.2.2 m.lens;by_cases o:bS M l n=0
 ·obtain⟨i,hc,a0,a1,a2⟩:=zzN o
  obtain⟨N,rfl⟩:=aA a0;have z:=wA c i;obtain⟨K,t⟩:∃ K,K=Cs.clocks ⟨⟨M,0,[]⟩,l,[],[]⟩ N:=⟨_,D⟩
  have w:N<=20000/\M.clock+N<=200000:=⟨by omega,a2⟩
  have e:=zxh (v:=k) t (λx p=>(h x p).d) z (zeA i) hc w;by_cases j:19000<M.b.f
  ·exact zuS M S k l N W a.1 a.2.1 m r c g q o j e.some
  ·have y:=zdL ⟨⟨M,0,[]⟩,l,[],[]⟩ ⟨D,D,D⟩ N w.1
   rw[<- t] at y;exact zuT M S k l N W a.1 a.2.1 m r c g q o j K.s.M K.ln K.sm K.s.l (by omega) e (zov t z (λx p=>⟨(wD l _ (wE hc).2 x p).1,(h x p).d⟩) hc w (by omega))
 ·exact zuR M S k l n W a.1 a.2.1 m r c g q o
theorem lockRun_holds:Rows.LockRunCardSaid:=zli zlS
end Go.Proofs.YthghjlinhokimaaGreatDoor
