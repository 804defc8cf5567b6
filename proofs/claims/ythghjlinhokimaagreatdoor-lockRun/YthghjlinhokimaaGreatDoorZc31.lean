/-
  Parts of a proof, joined.
-/
import Derived.Test.YthghjlinhokimaaGreatDoorZcA
import Derived.Test.YthghjlinhokimaaGreatDoorZc25
set_option linter.all false
set_option maxRecDepth 100000
set_option maxHeartbeats 3200000
namespace Go.Proofs.YthghjlinhokimaaGreatDoor
open Go.ChangeShapes Go.WideShapes Go.ChangeAt Go.RowKit Go.Proofs.Tryz
section
variable {F : Fx} {W : World} {M M' : Mach} {tk : Tk}
theorem Lk.run1(b:Bem)(w:World)(h:BOr b.l b.a b.f):Calls prog 65 #[.agg #[.int .i64 b.l,.int .i64 b.a,.bool b.g,.int .i64 b.f],.int .i64 1] w λe w'=>∃ x,e=.returned (.tuple #[.agg #[.int .i64 b.one.l,.int .i64 b.one.a,.bool b.one.g,.int .i64 b.one.f],.int .i64 x])/\Below w.heap.size w w':=by
 unfold Bem.one;by_cases c:na b.l b.a b.f=true
 ·rw[Q c]
  refine(zpd b.l b.a b.f 1 b.g w ((oK _ _ _).1 c) ⟨by decide,by decide⟩).mono ?_;rintro e w1 ⟨rfl,hb⟩;exact⟨_,U,hb⟩
 ·rw[G c]
  refine(zpe b.l b.a b.f 1 b.g w (Or.inl (λx=>c ((oK _ _ _).2 x)))).mono ?_;rintro e w1 ⟨rfl,hb⟩;exact⟨_,U,hb⟩
def GW(F:Fx)(W:World)(M:Mach)(tk:Tk)(Y:World):Prop:=Bd F Y M tk/\Bt F W Y
theorem Lk.goOn(h:Bd F W M tk)(hc:M.clock<200000):Calls prog 33 #[pt F.g 0] W λe w'=>e=.returned (.tuple #[])/\Bd F w' M.goOn tk/\Bt F W w':=by
 have c0:=h.at 41 (.int .u16 M.t.r) U;have c1:=h.at 42 (.int .u16 M.t.c) U;have c2:=h.at 43 (.bool M.t.on) U;have c3:=h.at 44 (.bool M.t.g) U;have ff:=h.bx.f;have E:=h.bx.z;have hf:=h.fit;have I:=znI hf hc;have HFF:=hid I;have u:=hid hf;have H:=hid h;have HC:=hid hc;have L:=hf.clock;obtain⟨T1,N⟩:∃ T1:TM,T1=⟨M.t.r,kZ M.t.r M.t.c M.t.on,M.t.on,lr M.t.c M.t.on M.t.g⟩:=⟨_,U⟩
 have P:=hid N;clear h hf I hc N;go_enter func33,ntmps33;go_upto_region 1 with(go_at_call 63;refine(zlM _ _ _ _ _ u.out.tc).mono ?_;rintro e w1 ⟨rfl,k⟩;obtain⟨k1,f1⟩:=bQ k;have z2:F.g<w1.heap.size:=pB E k (by simp))
 refine Pl.cutW (GW F W { M with t:=T1 } tk) ⟨by rw[P.out];exact(H.out.kept k).puts (M':={ M with t:=⟨M.t.r,kZ M.t.r M.t.c M.t.on,M.t.on,lr M.t.c M.t.on M.t.g⟩ }) (tk':=tk) 41 [.int .u16 M.t.r,.int .u16 (kZ M.t.r M.t.c M.t.on),.bool M.t.on,.bool (lr M.t.c M.t.on M.t.g)] (by simp) U ⟨U,U,U,U,U⟩ { u.out with main:=u.out.main,tr:=u.out.tr,tc:=pa u.out.tr u.out.tc },Bt.sets H.out.nd [.int .u16 M.t.r,.int .u16 (kZ M.t.r M.t.c M.t.on),.bool M.t.on,.bool (lr M.t.c M.t.on M.t.g)] 41 _ (Bt.kept (Bt.refl F W) H.out.big k)⟩ ?_;intro Y hY;have B:=hid hY.1;have R:=hid hY.2;clear hY k k1 f1 z2 c0 c1 c2 c3 ff E;obtain⟨i,o⟩:∃ i:Mach,i={ M with t:=T1 }:=⟨_,U⟩
 rw[<- o] at B;have T:=hid o;have X:i.s=M.s:=by rw[o]
 have hsf:i.s.fit:=by rw[X];exact { u.out.s with w:=u.out.w }
 have v:=hid hsf;clear o X hsf;go_upto_region 2 with(first
  | (refine wpList_load_mid U 36 _ U F.g 45 U (dA i.s) _ B.out.sndR underlying36 U kJ ?_)
  | (go_at_call 64;refine(zfL i.s 1 _ v.out (by decide)).mono ?_;rintro e w2 ⟨v2,rfl,hs2,_,x⟩;have HB2:=hid x;have m:=hid (B.out.kept x);clear hs2 x)
  | (refine wpList_store_mid U 36 _ _ U F.g 45 (dA (i.s.ticks 1)).toArray U U (Bx.there m.out.bx 45 16 (by rw[Fx.len];omega)) kJ (jP (i.s.ticks 1)) ?_
     refine Pl.cutL (GW F W { i with s:=i.s.ticks 1 } tk) ⟨m.out.puts (M':={ i with s:=i.s.ticks 1 }) (tk':=tk) 45 (dA (i.s.ticks 1)) (by simp[dA]) (F.putSnd i tk _) ⟨U,U,U,U,U⟩ { m.out.fit with main:=m.out.fit.main,s:=(Sd.ticks_fit v.out 1).took,w:=(Sd.ticks_fit v.out 1).w },Bt.sets B.out.nd (dA (i.s.ticks 1)) 45 _ (Bt.kept R.out B.out.big HB2.out)⟩ ?_;intro Z hZ;have j:=hid hZ.1;have HZT:=hid hZ.2;clear hZ))
 obtain⟨d,y⟩:∃ d:Mach,d={ i with s:=i.s.ticks 1 }:=⟨_,U⟩
 rw[<- y] at j;have HM2:=hid y;have b0:=j.out.at 61 (.int .i64 d.b.l) U;have b1:=j.out.at 62 (.int .i64 d.b.a) U;have b2:=j.out.at 63 (.bool d.b.g) U;have b3:=j.out.at 64 (.int .i64 d.b.f) U;have ff:=j.out.bx.f;have E:=j.out.bx.z;clear y B R HB2 m;go_upto_region 3 with(go_at_call 65;refine(Lk.run1 d.b _ j.out.fit.b).mono ?_;rintro e w3 ⟨x3,rfl,n⟩;obtain⟨k3,f3⟩:=bQ n;have z3:F.g<w3.heap.size:=pB E n (by simp))
 refine Pl.cutW (GW F W { d with b:=d.b.one } tk) ⟨(j.out.kept n).puts (M':={ d with b:=d.b.one }) (tk':=tk) 61 [.int .i64 d.b.one.l,.int .i64 d.b.one.a,.bool d.b.one.g,.int .i64 d.b.one.f] (by simp) U ⟨U,U,U,U,U⟩ { j.out.fit with main:=j.out.fit.main,b:=Bem.one_ok j.out.fit.b },Bt.sets j.out.nd [.int .i64 d.b.one.l,.int .i64 d.b.one.a,.bool d.b.one.g,.int .i64 d.b.one.f] 61 _ (Bt.kept HZT.out j.out.big n)⟩ ?_;intro V hV;obtain⟨p,q⟩:∃ p:Mach,p={ d with b:=d.b.one }:=⟨_,U⟩
 rw[<- q] at hV;have HV:=hid hV.1;have HVT:=hid hV.2;have hE:M.goOn={ p with clock:=p.clock+1 }:=by
  rw[q,HM2.out,T.out,P.out];rfl
 have HE:=hid hE;have hcl3:0<=p.clock/\p.clock<=200000:=by rw[q,HM2.out,T.out];exact L
 have d0:=HV.out.at 72 (.int .i64 p.clock) U;have df:=HV.out.bx.f 72;have dz:=HV.out.bx.z;have hwr:IntKind.i64.wrap (p.clock+1)=p.clock+1:=by rw[aI];omega
 clear hV q hE n k3 f3 z3 b0 b1 b2 b3 ff E j HZT L;go_wp2;go_end0;refine⟨U,?_,Bt.set HV.out.nd HVT.out 72 _⟩;rw[HE.out];exact HV.out.put 72 _ (by omega) U ⟨U,U,U,U,U⟩ (by rw[<- HE.out];exact HFF.out)
end
end Go.Proofs.YthghjlinhokimaaGreatDoor
