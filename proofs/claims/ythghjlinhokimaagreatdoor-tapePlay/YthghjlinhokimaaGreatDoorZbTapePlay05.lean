/-
  For any two programs, anything that is pressed, every number of frames and every frame the law TapePlay of the program returns true and leaves its arguments as they were; the listed library variables are as the tied card says.
-/
import Derived.Test.YthghjlinhokimaaGreatDoorZbA
import Derived.Test.YthghjlinhokimaaGreatDoorZbTapePlay03
import Derived.Test.YthghjlinhokimaaGreatDoorZbTapePlay04
set_option linter.all false
set_option maxRecDepth 100000
open Go.Act renaming put->ag
open Go.Value renaming slice->κ
namespace Go.Proofs.YthghjlinhokimaaGreatDoor
open Go.ChangeShapes Go.WideShapes Go.ChangeAt Go.RowKit Go.Proofs.Tryz
theorem zmA{W:World}{v:Value}{l:List UInt8}(h:sliceAt W v l):∃ a c,v=κ a l.length c:=by
 rcases h with⟨a,b,e,e2⟩|⟨g,o,b,e,_⟩
 ·exact⟨a,b,by rw[e,e2];rfl⟩
 ·exact⟨_,b,e⟩
theorem zo9(l1 l2:List UInt8)(h v2 v:Value)(l:List Inp)(f:Nat)(w:World)(h1:sliceAt w h l1)(h2:sliceAt w v2 l2)(i:l1.length<=1024)(j:l2.length<=1024)(k:bP w.heap.size w v l)(m:br w)(n:∀ x∈l,0<=x.d/\x.d<=255)(o:f<=20)(hc:Go.Proofs.YthghjlinhokimaaGreatDoor.chkIn l 0=0){K:Cs}(p:K=Tp.K l1 l2 l f):Calls prog 19 #[h,v2,v,.int .i64 f] w λe w'=>∃(SX:Sl) (a1 a2 a3:Option Addr) (b c g c1 c2 c3:Nat),e=.returned (.tuple #[.agg (υ K.s.M SX).toArray,.agg #[κ a1 b c1,κ a2 c c2,κ a3 g c3],.int .i64 0])/\cf w' SX K.s.M/\ShAt w' (κ a1 b c1) (κ a2 c c2) (κ a3 g c3) K.ln K.sm K.s.l/\Below w.heap.size w w':=by
 refine(zsd l1 l2 h v2 v l f w h1 h2 i j k m n o hc).mono ?_;rw[<- p];rintro e w' ⟨F,N,vln,vsm,vw,rfl,a,hb⟩;obtain⟨a1,b,c1,e1⟩:=ol a.ln;obtain⟨a2,c,c2,e2⟩:=ol a.sm;obtain⟨a3,g,c3,e3⟩:=ol a.ws;subst e1 e2 e3;exact⟨F.S,a1,a2,a3,b,c,g,c1,c2,c3,D,a.sl,zqr a,hb⟩
theorem zsj{l1 l2:List UInt8}{l:List Inp}{n:Int}(h1:l1.length<=1024)(h2:l2.length<=1024)(h:Go.Proofs.YthghjlinhokimaaGreatDoor.chkIn l 0≠0):bS (dv l1 l2) l n=Go.Proofs.YthghjlinhokimaaGreatDoor.chkIn l 0:=by
 obtain⟨a,hb,d,b⟩:=zZ l1 l2 h1 h2;have c:(dv l1 l2).chk=0:=by
  first
  | exact zjP a (by rw[hb];decide)
  | exact zjP a
 unfold bS;rw[am c,b,ae h]
theorem zkf:kR:=by
 intro H enc W base v0 v1 v2 v3 v4 d0 d1 d2 d3 d4 p0 p1 p2 p3 p4 i k0 t0 k1 t1 k2 t2 k3 t3 k4 t4;obtain⟨a0,n0,c0,rfl⟩:=oK (t:=26) underlying26 k0;obtain⟨f0,I⟩:=t0;obtain⟨l1,g,L⟩:=yu (v:=κ a0 n0 c0) I;obtain⟨a1,n1,c1,rfl⟩:=oK (t:=26) underlying26 k1;obtain⟨f1,N⟩:=t1;obtain⟨l2,h,P⟩:=yu (v:=κ a1 n1 c1) N;unfold maxLen at L P;obtain⟨l,e,hll,R⟩:=AX k2 t2;obtain⟨a,rfl,_,_,wa⟩:=mc underlying3 k3 t3;obtain⟨m,rfl,_,_,wb⟩:=mc underlying3 k4 t4;have hwh:=j9 wb;have Z:∀ x∈l,0<=x.d/\x.d<=255:=λx F=>(R x F).d
 obtain⟨b1,e1,q1⟩:=zmA g;obtain⟨b2,e2,q2⟩:=zmA h;cases q1;cases q2;by_cases h1:1024<l1.length
 ·exact zxu l1 l2 _ _ _ _ v2 l a m W i.1 e h1 (zgT l1 l2 _ _ v2 a W g h (by omega) (by omega) (by omega))
 by_cases h2:1024<l2.length
 ·exact zxv l1 l2 _ _ _ _ v2 l a m W i.1 e (by omega) h2 (zgT l1 l2 _ _ v2 a W g h (by omega) (by omega) (by omega))
 have b:l1.length<=1024:=by omega
 have c:l2.length<=1024:=by omega
 by_cases h3:a<0
 ·exact zxw l1 l2 _ _ _ _ v2 l a m W i.1 e b c h3 (zeV l1 l2 _ _ v2 l a W g h b c e (Or.inl h3))
 by_cases h4:20<a
 ·exact zxx l1 l2 _ _ _ _ v2 l a m W i.1 e b c h3 h4 (zeV l1 l2 _ _ v2 l a W g h b c e (Or.inr h4))
 obtain⟨f,rfl⟩:=aA (show 0<=a by omega);have r:f<=20:=by omega
 by_cases n:Go.Proofs.YthghjlinhokimaaGreatDoor.chkIn l 0=0
 ·obtain⟨o,hb,hw,y⟩:=zZ l1 l2 b c
  obtain⟨K,T⟩:∃ K,K=Tp.K l1 l2 l f:=⟨_,D⟩
  have z:K=Cs.clocks ⟨⟨dv l1 l2,0,[]⟩,l,[],[]⟩ (f*640):=T;have U:=zdL ⟨⟨dv l1 l2,0,[]⟩,l,[],[]⟩ ⟨D,D,D⟩ (f*640) (by omega);rw[<- z] at U;have p:(K.ln.map Tp.ofLin).map (λx=>(x.f,x.l))=Tp.blks f:=by rw[kQ,T];exact(zo8 l1 l2 l f b c r).1
  have hp:=zo9 l1 l2 _ _ v2 l f W g h b c e i.2.shapes Z r n T;have B:=zov (v:=v2) z o (λx F=>⟨(wD l _ (wE n).2 x F).1,Z x F⟩) (by rw[y];exact n) (by rw[y];omega) (by rw[hb];decide);rw[show ((f*640:Nat):Int)=640*(f:Int) by omega] at B;have q:=λ(S:Sl) (w:World) (V:Facts w) (hi:bP w.heap.size w v2 l) (hs:cf w S (dv l1 l2))=>B S w hs.lens (λj hj=>ax (zF o j hj) (by decide)) hs V hi
  by_cases E:0<=m/\m<f
  ·obtain⟨k,X⟩:=aA E.1
   exact zu9 l1 l2 _ _ _ _ v2 l f m W i.1 i.2 g h e b c r n K.s.M K.ln K.sm K.s.l (by omega) p hp q k X (by omega)
  ·exact zsh l1 l2 _ _ _ _ v2 l f m W i.1 i.2 g h e b c r n K.s.M K.ln K.sm K.s.l (by omega) p hp q E
 ·have he:bS (dv l1 l2) l ((f:Int)*640)=Go.Proofs.YthghjlinhokimaaGreatDoor.chkIn l 0:=zsj b c n
  have hp:=zo2 l1 l2 _ _ v2 l f W g h b c e r (by rw[he];exact n);rw[he] at hp;exact zxy l1 l2 _ _ _ _ v2 l f m W i.1 e b c h3 h4 _ D n hp
theorem tapePlay_holds:Rows.TapePlayCardSaid:=zkd zkf
end Go.Proofs.YthghjlinhokimaaGreatDoor
