/-
  Parts of a proof, joined.
-/
import Derived.Test.YthghjlinhokimaaGreatDoorZbA
import Derived.Test.YthghjlinhokimaaGreatDoorZb25
set_option linter.all false
set_option maxRecDepth 100000
set_option maxHeartbeats 3200000
open Go.Act renaming put->ag
open Go.Value renaming int->J,bool->ν
open Go.IntKind renaming i64->Q,u16->Y
namespace Go.Proofs.YthghjlinhokimaaGreatDoor
open Go.ChangeShapes Go.WideShapes Go.ChangeAt Go.RowKit Go.Proofs.Tryz
section
variable {F : Fx} {W : World} {M M' : Mach} {tk : Tk}
theorem Lk.run1(b:Bem)(w:World)(h:BOr b.l b.a b.f):Calls prog 65 #[.agg #[J Q b.l,J Q b.a,ν b.g,J Q b.f],J Q 1] w λe w'=>∃ x,e=.returned (.tuple #[.agg #[J Q b.one.l,J Q b.one.a,ν b.one.g,J Q b.one.f],J Q x])/\Below w.heap.size w w':=by
 unfold Bem.one;by_cases c:pL b.l b.a b.f=true
 ·rw[am c]
  refine(ziC b.l b.a b.f 1 b.g w ((qo _ _ _).1 c) ⟨by decide,by decide⟩).mono ?_;rintro e w1 ⟨rfl,hb⟩;exact⟨_,D,hb⟩
 ·rw[ae c]
  refine(ziD b.l b.a b.f 1 b.g w (Or.inl (λx=>c ((qo _ _ _).2 x)))).mono ?_;rintro e w1 ⟨rfl,hb⟩;exact⟨_,D,hb⟩
def GW(F:Fx)(W:World)(M:Mach)(tk:Tk)(ι:World):Prop:=Bd F ι M tk/\Bt F W ι
theorem Lk.goOn(h:Bd F W M tk)(hc:M.clock<200000):Calls prog 33 #[pt F.g 0] W λe w'=>e=.returned (.tuple #[])/\Bd F w' M.goOn tk/\Bt F W w':=by
 have c0:=h.at 41 (J Y M.t.r) D;have c1:=h.at 42 (J Y M.t.c) D;have c2:=h.at 43 (ν M.t.on) D;have c3:=h.at 44 (ν M.t.g) D;have ff:=h.bx.f;have I:=h.bx.z;have hf:=h.fit;have L:=zqg hf hc;have HFF:=hid L;have v:=hid hf;have H:=hid h;have HC:=hid hc;have N:=hf.clock;obtain⟨T1,P⟩:∃ T1:TM,T1=⟨M.t.r,oA M.t.r M.t.c M.t.on,M.t.on,oR M.t.c M.t.on M.t.g⟩:=⟨_,D⟩
 have R:=hid P;clear h hf L hc P;go_enter func33,ntmps33;go_upto_region 1 with(go_at_call 63;refine(znY _ _ _ _ _ v.out.tc).mono ?_;rintro e w1 ⟨rfl,k⟩;obtain⟨k1,f1⟩:=cj k;have z2:F.g<w1.heap.size:=vO I k (by simp))
 refine Pl.cutW (GW F W { M with t:=T1 } tk) ⟨by rw[R.out];exact(H.out.kept k).puts (M':={ M with t:=⟨M.t.r,oA M.t.r M.t.c M.t.on,M.t.on,oR M.t.c M.t.on M.t.g⟩ }) (tk':=tk) 41 [J Y M.t.r,J Y (oA M.t.r M.t.c M.t.on),ν M.t.on,ν (oR M.t.c M.t.on M.t.g)] (by simp) D ⟨D,D,D,D,D⟩ { v.out with main:=v.out.main,tr:=v.out.tr,tc:=vA v.out.tr v.out.tc },Bt.sets H.out.nd [J Y M.t.r,J Y (oA M.t.r M.t.c M.t.on),ν M.t.on,ν (oR M.t.c M.t.on M.t.g)] 41 _ (Bt.kept (Bt.refl F W) H.out.big k)⟩ ?_;intro ι hY;have E:=hid hY.1;have T:=hid hY.2;clear hY k k1 f1 z2 c0 c1 c2 c3 ff I;obtain⟨i,o⟩:∃ i:Mach,i={ M with t:=T1 }:=⟨_,D⟩
 rw[<- o] at E;have U:=hid o;have X:i.s=M.s:=by rw[o]
 have hsf:i.s.fit:=by rw[X];exact { v.out.s with w:=v.out.w }
 have x:=hid hsf;clear o X hsf;go_upto_region 2 with(first
  | (refine wpList_load_mid D 36 _ D F.g 45 D (dq i.s) _ E.out.sndR underlying36 D nh ?_)
  | (go_at_call 64;refine(zcZ i.s 1 _ x.out (by decide)).mono ?_;rintro e w2 ⟨v2,rfl,hs2,_,y⟩;have HB2:=hid y;have m:=hid (E.out.kept y);clear hs2 y)
  | (refine wpList_store_mid D 36 _ _ D F.g 45 (dq (i.s.ticks 1)).toArray D D (Bx.there m.out.bx 45 16 (by rw[Fx.len];omega)) nh (kH (i.s.ticks 1)) ?_
     refine Pl.cutL (GW F W { i with s:=i.s.ticks 1 } tk) ⟨m.out.puts (M':={ i with s:=i.s.ticks 1 }) (tk':=tk) 45 (dq (i.s.ticks 1)) (by simp[dq]) (F.putSnd i tk _) ⟨D,D,D,D,D⟩ { m.out.fit with main:=m.out.fit.main,s:=(Sd.ticks_fit x.out 1).took,w:=(Sd.ticks_fit x.out 1).w },Bt.sets E.out.nd (dq (i.s.ticks 1)) 45 _ (Bt.kept T.out E.out.big HB2.out)⟩ ?_;intro Z hZ;have j:=hid hZ.1;have HZT:=hid hZ.2;clear hZ))
 obtain⟨d,B⟩:∃ d:Mach,d={ i with s:=i.s.ticks 1 }:=⟨_,D⟩
 rw[<- B] at j;have HM2:=hid B;have b0:=j.out.at 61 (J Q d.b.l) D;have b1:=j.out.at 62 (J Q d.b.a) D;have b2:=j.out.at 63 (ν d.b.g) D;have b3:=j.out.at 64 (J Q d.b.f) D;have ff:=j.out.bx.f;have I:=j.out.bx.z;clear B E T HB2 m;go_upto_region 3 with(go_at_call 65;refine(Lk.run1 d.b _ j.out.fit.b).mono ?_;rintro e w3 ⟨x3,rfl,n⟩;obtain⟨k3,f3⟩:=cj n;have z3:F.g<w3.heap.size:=vO I n (by simp))
 refine Pl.cutW (GW F W { d with b:=d.b.one } tk) ⟨(j.out.kept n).puts (M':={ d with b:=d.b.one }) (tk':=tk) 61 [J Q d.b.one.l,J Q d.b.one.a,ν d.b.one.g,J Q d.b.one.f] (by simp) D ⟨D,D,D,D,D⟩ { j.out.fit with main:=j.out.fit.main,b:=Bem.one_ok j.out.fit.b },Bt.sets j.out.nd [J Q d.b.one.l,J Q d.b.one.a,ν d.b.one.g,J Q d.b.one.f] 61 _ (Bt.kept HZT.out j.out.big n)⟩ ?_;intro V hV;obtain⟨p,q⟩:∃ p:Mach,p={ d with b:=d.b.one }:=⟨_,D⟩
 rw[<- q] at hV;have HV:=hid hV.1;have HVT:=hid hV.2;have hE:M.goOn={ p with clock:=p.clock+1 }:=by
  rw[q,HM2.out,U.out,R.out];rfl
 have HE:=hid hE;have hcl3:0<=p.clock/\p.clock<=200000:=by rw[q,HM2.out,U.out];exact N
 have d0:=HV.out.at 72 (J Q p.clock) D;have df:=HV.out.bx.f 72;have dz:=HV.out.bx.z;have hwr:IntKind.i64.wrap (p.clock+1)=p.clock+1:=by rw[aH];omega
 clear hV q hE n k3 f3 z3 b0 b1 b2 b3 ff I j HZT N;go_wp2;go_end0;refine⟨D,?_,Bt.set HV.out.nd HVT.out 72 _⟩;rw[HE.out];exact HV.out.put 72 _ (by omega) D ⟨D,D,D,D,D⟩ (by rw[<- HE.out];exact HFF.out)
end
end Go.Proofs.YthghjlinhokimaaGreatDoor
