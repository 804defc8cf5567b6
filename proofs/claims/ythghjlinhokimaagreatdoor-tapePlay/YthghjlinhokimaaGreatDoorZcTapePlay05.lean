/-
  For any two programs, anything that is pressed, every number of frames and every frame the law TapePlay of the program returns true and leaves its arguments as they were; the listed library variables are as the tied card says.
-/
import Derived.Test.YthghjlinhokimaaGreatDoorZcA
import Derived.Test.YthghjlinhokimaaGreatDoorZcTapePlay03
import Derived.Test.YthghjlinhokimaaGreatDoorZcTapePlay04
set_option linter.all false
set_option maxRecDepth 100000
namespace Go.Proofs.YthghjlinhokimaaGreatDoor
open Go.ChangeShapes Go.WideShapes Go.ChangeAt Go.RowKit Go.Proofs.Tryz
theorem zkQ{W:World}{v:Value}{l:List UInt8}(h:sliceAt W v l):∃ a c,v=.slice a l.length c:=by
 rcases h with⟨a,b,e,e2⟩|⟨g,o,b,e,_⟩
 ·exact⟨a,b,by rw[e,e2];rfl⟩
 ·exact⟨_,b,e⟩
theorem zmW(l1 l2:List UInt8)(h v2 v:Value)(l:List Inp)(f:Nat)(w:World)(h1:sliceAt w h l1)(h2:sliceAt w v2 l2)(i:l1.length<=1024)(j:l2.length<=1024)(k:bE w.heap.size w v l)(m:aZ w)(n:∀ x∈l,0<=x.d/\x.d<=255)(o:f<=20)(hc:Go.Proofs.YthghjlinhokimaaGreatDoor.chkIn l 0=0){K:Cs}(p:K=Tp.K l1 l2 l f):Calls prog 19 #[h,v2,v,.int .i64 f] w λe w'=>∃(SX:Sl) (a1 a2 a3:Option Addr) (b c g c1 c2 c3:Nat),e=.returned (.tuple #[.agg (D K.s.M SX).toArray,.agg #[.slice a1 b c1,.slice a2 c c2,.slice a3 g c3],.int .i64 0])/\bM w' SX K.s.M/\ShAt w' (.slice a1 b c1) (.slice a2 c c2) (.slice a3 g c3) K.ln K.sm K.s.l/\Below w.heap.size w w':=by
 refine(zpE l1 l2 h v2 v l f w h1 h2 i j k m n o hc).mono ?_;rw[<- p];rintro e w' ⟨F,N,vln,vsm,vw,rfl,a,hb⟩;obtain⟨a1,b,c1,e1⟩:=mi a.ln;obtain⟨a2,c,c2,e2⟩:=mi a.sm;obtain⟨a3,g,c3,e3⟩:=mi a.ws;subst e1 e2 e3;exact⟨F.S,a1,a2,a3,b,c,g,c1,c2,c3,U,a.sl,zvl a,hb⟩
theorem zpK{l1 l2:List UInt8}{l:List Inp}{n:Int}(h1:l1.length<=1024)(h2:l2.length<=1024)(h:Go.Proofs.YthghjlinhokimaaGreatDoor.chkIn l 0≠0):bF (cq l1 l2) l n=Go.Proofs.YthghjlinhokimaaGreatDoor.chkIn l 0:=by
 obtain⟨a,hb,d,b⟩:=tb l1 l2 h1 h2;have c:(cq l1 l2).chk=0:=by
  first
  | exact zip a (by rw[hb];decide)
  | exact zip a
 unfold bF;rw[Q c,b,G h]
theorem ziQ:il:=by
 intro H enc W base v0 v1 v2 v3 v4 d0 d1 d2 d3 d4 p0 p1 p2 p3 p4 i k0 t0 k1 t1 k2 t2 k3 t3 k4 t4;obtain⟨a0,n0,c0,rfl⟩:=kC (t:=26) underlying26 k0;obtain⟨f0,F⟩:=t0;obtain⟨l1,g,I⟩:=rB (v:=.slice a0 n0 c0) F;obtain⟨a1,n1,c1,rfl⟩:=kC (t:=26) underlying26 k1;obtain⟨f1,L⟩:=t1;obtain⟨l2,h,N⟩:=rB (v:=.slice a1 n1 c1) L;unfold maxLen at I N;obtain⟨l,e,hll,P⟩:=zdE k2 t2;obtain⟨a,rfl,_,_,wa⟩:=kA underlying3 k3 t3;obtain⟨m,rfl,_,_,wb⟩:=kA underlying3 k4 t4;have hwh:=jk wb;have Y:∀ x∈l,0<=x.d/\x.d<=255:=λx E=>(P x E).d
 obtain⟨b1,e1,q1⟩:=zkQ g;obtain⟨b2,e2,q2⟩:=zkQ h;cases q1;cases q2;by_cases h1:1024<l1.length
 ·exact zuH l1 l2 _ _ _ _ v2 l a m W i.1 e h1 (zgd l1 l2 _ _ v2 a W g h (by omega) (by omega) (by omega))
 by_cases h2:1024<l2.length
 ·exact zuI l1 l2 _ _ _ _ v2 l a m W i.1 e (by omega) h2 (zgd l1 l2 _ _ v2 a W g h (by omega) (by omega) (by omega))
 have b:l1.length<=1024:=by omega
 have c:l2.length<=1024:=by omega
 by_cases h3:a<0
 ·exact zuJ l1 l2 _ _ _ _ v2 l a m W i.1 e b c h3 (zer l1 l2 _ _ v2 l a W g h b c e (Or.inl h3))
 by_cases h4:20<a
 ·exact zuK l1 l2 _ _ _ _ v2 l a m W i.1 e b c h3 h4 (zer l1 l2 _ _ v2 l a W g h b c e (Or.inr h4))
 obtain⟨f,rfl⟩:=aB (show 0<=a by omega);have r:f<=20:=by omega
 by_cases n:Go.Proofs.YthghjlinhokimaaGreatDoor.chkIn l 0=0
 ·obtain⟨o,hb,hw,u⟩:=tb l1 l2 b c
  obtain⟨K,R⟩:∃ K,K=Tp.K l1 l2 l f:=⟨_,U⟩
  have y:K=Cs.clocks ⟨⟨cq l1 l2,0,[]⟩,l,[],[]⟩ (f*640):=R;have T:=zeG ⟨⟨cq l1 l2,0,[]⟩,l,[],[]⟩ ⟨U,U,U⟩ (f*640) (by omega);rw[<- y] at T;have p:(K.ln.map Tp.ofLin).map (λx=>(x.f,x.l))=Tp.blks f:=by rw[jn,R];exact(zmV l1 l2 l f b c r).1
  have hp:=zmW l1 l2 _ _ v2 l f W g h b c e i.2.shapes Y r n R;have z:=zsf (v:=v2) y o (λx E=>⟨(qx l _ (qB n).2 x E).1,Y x E⟩) (by rw[u];exact n) (by rw[u];omega) (by rw[hb];decide);rw[show ((f*640:Nat):Int)=640*(f:Int) by omega] at z;have q:=λ(S:Sl) (w:World) (V:Facts w) (hi:bE w.heap.size w v2 l) (Z:bM w S (cq l1 l2))=>z S w Z.lens (λj hj=>ax (sH o j hj) (by decide)) Z V hi
  by_cases B:0<=m/\m<f
  ·obtain⟨k,X⟩:=aB B.1
   exact zsy l1 l2 _ _ _ _ v2 l f m W i.1 i.2 g h e b c r n K.s.M K.ln K.sm K.s.l (by omega) p hp q k X (by omega)
  ·exact zpI l1 l2 _ _ _ _ v2 l f m W i.1 i.2 g h e b c r n K.s.M K.ln K.sm K.s.l (by omega) p hp q B
 ·have he:bF (cq l1 l2) l ((f:Int)*640)=Go.Proofs.YthghjlinhokimaaGreatDoor.chkIn l 0:=zpK b c n
  have hp:=zmR l1 l2 _ _ v2 l f W g h b c e r (by rw[he];exact n);rw[he] at hp;exact zuL l1 l2 _ _ _ _ v2 l f m W i.1 e b c h3 h4 _ U n hp
theorem tapePlay_holds:Rows.TapePlayCardSaid:=ziO ziQ
end Go.Proofs.YthghjlinhokimaaGreatDoor
