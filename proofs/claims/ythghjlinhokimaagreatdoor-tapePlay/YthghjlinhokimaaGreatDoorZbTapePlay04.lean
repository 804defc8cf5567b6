/-
  Parts of a proof, joined.
-/
import Derived.Test.YthghjlinhokimaaGreatDoorZbA
import Derived.Test.YthghjlinhokimaaGreatDoorZbTapePlay02
set_option linter.all false
set_option maxRecDepth 100000
set_option maxHeartbeats 6400000
open Option renaming none->G,some->A
open Go renaming World->u,Value->π,Calls->Δ,Addr->cK
open Bool renaming false->ξ,true->Γ
open Go.Proofs.Tryz renaming prog->ω
open Go.Act renaming put->ag
open Go.Value renaming int->J,slice->κ,tuple->Ψ,agg->ac
open Go.IntKind renaming i64->Q
open Go.Ending renaming returned->μ
namespace Go.Proofs.YthghjlinhokimaaGreatDoor
open Go.ChangeShapes Go.WideShapes Go.ChangeAt Go.RowKit Go.Proofs.Tryz
structure Tp.Pg (w w1 : u) (l1 l2 : List UInt8) (s1 s2 v : π) (l : List Inp) (X : Mach) (SX : Sl) (p1 p2 p3 : π) (ln : List Lin) (sm : List UInt8) (ws : List Wt) (ι : u) : Prop where
 low:Below w.heap.size w ι
 r:LawR w1 X SX p1 p2 p3 ln sm ws ι
 inp:bP w.heap.size ι v l
 h1:sliceAt ι s1 l1
 h2:sliceAt ι s2 l2
 tf:Tp.F ι
 fa:Facts ι
section
variable {w w1 ι Y' : u} {l1 l2 : List UInt8} {s1 s2 v : π} {l : List Inp} {X : Mach} {SX : Sl} {p1 p2 p3 : π} {ln : List Lin} {sm : List UInt8} {ws : List Wt}
theorem Tp.Pg.kept(h:Tp.Pg w w1 l1 l2 s1 s2 v l X SX p1 p2 p3 ln sm ws ι)(hb:Below ι.heap.size ι Y'):Tp.Pg w w1 l1 l2 s1 s2 v l X SX p1 p2 p3 ln sm ws Y' :=
 ⟨bw h.low hb,h.r.kept hb,h.inp.kept (hb.mono h.low.size),h.h1.kept hb,h.h2.kept hb,h.tf.kept hb,h.fa.kept hb⟩
theorem zc4{W:u}{u1 u2 u3:π}(h:ShAt W u1 u2 u3 ln sm ws):Tp.Rw W u1 (ln.map Tp.ofLin).length 18 (Tp.lncs (ln.map Tp.ofLin)):=by
 rw[bf,ziX];exact⟨h.ln.1,h.ln.2⟩
end
theorem zsh(l1 l2:List UInt8)(b1 b2:Option cK)(e1 e2:Nat)(v:π)(l:List Inp)(n:Nat)(which:Int)(w:u)(hF:Tp.F w)(hFa:Facts w)(hs1:sliceAt w (κ b1 l1.length e1) l1)(hs2:sliceAt w (κ b2 l2.length e2) l2)(hin:bP w.heap.size w v l)(hc:l1.length<=1024)(hc2:l2.length<=1024)(hn:n<=20)(hk:Go.Proofs.YthghjlinhokimaaGreatDoor.chkIn l 0=0)
 (X:Mach) (ln:List Lin) (sm:List UInt8) (ws:List Wt) (hkl:ln.length<=1000000/\ws.length<=1000000) (hmap:(ln.map Tp.ofLin).map (λx=>(x.f,x.l))=Tp.blks n)
 (hp:Δ ω 19 #[κ b1 l1.length e1,κ b2 l2.length e2,v,J Q n] w λe w'=>∃(SX:Sl) (a1 a2 a3:Option cK) (B E H c1 c2 c3:Nat),e=μ (Ψ #[ac (υ X SX).toArray,ac #[κ a1 B c1,κ a2 E c2,κ a3 H c3],J Q 0])/\cf w' SX X/\ShAt w' (κ a1 B c1) (κ a2 E c2) (κ a3 H c3) ln sm ws/\Below w.heap.size w w')
 (href:∀(S:Sl) (W:u),Facts W->bP W.heap.size W v l->cf W S (dv l1 l2)->Δ ω 16 #[ac (υ (dv l1 l2) S).toArray,v,J Q (640*(n:Int))] W λe w'=>∃(SX:Sl) (a1 a2 a3:Option cK) (B E H c1 c2 c3:Nat),e=μ (Ψ #[ac (υ X SX).toArray,ac #[κ a1 B c1,κ a2 E c2,κ a3 H c3]])/\cf w' SX X/\ShAt w' (κ a1 B c1) (κ a2 E c2) (κ a3 H c3) ln sm ws/\Below W.heap.size W w') (hw:¬ (0<=which/\which<n)) :
 Δ ω 5 #[κ b1 l1.length e1,κ b2 l2.length e2,v,J Q n,J Q which] w λe w'=>e=μ (.bool Γ)/\Below w.heap.size w w':=by
 have hpk:Tp.pick which (ln.map Tp.ofLin) []=[]:=zX _ _ [] (λx hx e=>by have:=zdO n _ (A6 hmap hx);simp only at this;omega);have hfl:Tp.frmL which (ln.map Tp.ofLin)=[]:=by unfold Tp.frmL;rw[hpk];rfl
 have hfe:Tp.frmE which (ln.map Tp.ofLin)=5:=by unfold Tp.frmE;rw[hpk];rfl
 have HFR:Hid (∀(W:u) (z1 z2 z3:π),Tp.Rw W z1 (ln.map Tp.ofLin).length 18 (Tp.lncs (ln.map Tp.ofLin))->Δ ω 20 #[ac #[z1,z2,z3],J Q which] W λe w'=>∃(ua:Option cK) (uc:Nat),e=μ (Ψ #[κ ua 0 uc,J Q 5])/\Tp.Rw w' (κ ua 0 uc) ([]:List (Nat->Int)).length 16 (Tp.pxs ([]:List (Nat->Int)))/\Below W.heap.size W w'):=hid (λW z1 z2 z3 hr=>by
  refine(yy z1 z2 z3 _ which W hr (by have:=hkl.1;rw[bf];omega)).mono λe w' ⟨θ,he,hu,hb⟩=>?_
  have q:=ziY hu;obtain⟨a,c,rfl⟩:=tR hu;rw[hfl] at q he;rw[hfe] at he;exact⟨a,c,he,q,hb⟩)
 have HTF:=hid hF;have HFA:=hid hFa;have HH1:=hid hs1;have HH2:=hid hs2;have HIN:=hid hin;have HP:=hid hp;have HREF:=hid href;have HKL:=hid hkl;have HCK:=hid hk;have HLE:Hid (l1.length<=1024/\l2.length<=1024):=hid ⟨hc,hc2⟩;have q1:¬ (1024:Int)<l1.length:=by omega
 have q2:¬ (1024:Int)<l2.length:=by omega
 have q3:decide ((n:Int)<0)=ξ:=aG (by omega);have q4:¬ (20:Int)<n:=by omega
 have qn:(n:Int)<=20:=by omega
 have q0:(0:Int)<=n:=by omega
 have qw:IntKind.i64.wrap (640*(n:Int))=640*(n:Int):=by rw[aH];omega
 clear hmap hpk hfl hfe;clear hF hFa hs1 hs2 hin hc hc2 hn hk hkl hp href;by_cases hz:which<0
 ·have d1:decide (which<0)=Γ:=aO hz
  clear hz hw;go_enter func5,ntmps5;go_wp2_with (first
  | (go_at_call 14;refine(Lk.sameShown (κ a1 B c1) (κ a2 E c2) (κ a3 H c3) (κ f1 m1 d1) (κ f2 m2 d2) (κ f3 m3 d3) ln sm ws _ g.out.r.sh h.out.sh HKL.out.1 HKL.out.2).mono ?_;rintro e w9 ⟨rfl,m⟩;have HP9:=hid (g.out.kept m);have HT9:=hid (h.out.kept m);have HU9:=hid (HU8.out.kept m);clear m k0 k1 k2 kz s0 s1 s2 sz)
  | (go_at_call 12;refine(rv X SX d _ I.out.r.sx L.out.sx).mono ?_;rintro e w8 ⟨rfl,o⟩;have g:=hid (I.out.kept o);have h:=hid (L.out.kept o);have HU8:=hid (HU7.out.kept o);have k0:=g.out.r.r.s.at 0 _ D;have k1:=g.out.r.r.s.at 1 _ D;have k2:=g.out.r.r.s.at 2 _ D;have kz:=g.out.r.r.s.z;have s0:=h.out.r.s.at 0 _ D;have s1:=h.out.r.s.at 1 _ D;have s2:=h.out.r.s.at 2 _ D;have sz:=h.out.r.s.z;clear o)
  | (refine Bu.loadG D 41 _ D w1.heap.size 0 D (υ X SX) _ I.out.r.r.x.c underlying41 D cn ?_)
  | (refine Bu.loadG D 41 _ D t.heap.size 0 D (υ X d) _ L.out.r.x.c underlying41 D cn ?_)
  | (refine wpList_store_mid D 47 _ _ D (t.heap.size+1) 0 #[κ f1 m1 d1,κ f2 m2 d2,κ f3 m3 d3] D D (HY6.out.s.there 0 3 (by simp)) kX (lH _ _ _ _ _ _ _ _ _) ?_
     refine Pl.cutL (R3 t X d [κ f1 m1 d1,κ f2 m2 d2,κ f3 m3 d3]) HY6.out.put ?_;intro Y7 i;have I:=hid (HP6.out.kept i.old);have L:=hid (⟨i,HSX6.out.kept i.old,HSH6.out.kept i.old⟩:LawR t X d (κ f1 m1 d1) (κ f2 m2 d2) (κ f3 m3 d3) ln sm ws Y7);have HU7:=hid (HU6.out.kept i.old);clear i)
  | (refine wpList_store_mid D 41 _ _ D t.heap.size 0 (υ X d).toArray D D (R3.th1 t) cn (iq _ _ HIS6.out) ?_
     refine Pl.cutL (R3 t X d nil3) (R3.mk1 t X d) ?_;intro Y6 hY6;have HY6:=hid hY6;clear hY6)
  | (go_at_call 16;refine(HREF.out S5 _ p.out.fa (p.out.inp.mono p.out.low.size) HS5.out).mono ?_;rintro e t ⟨d,f1,f2,f3,m1,m2,m3,d1,d2,d3,rfl,k,y,M⟩;have HP6:=hid (p.out.kept M);have HU6:=hid (HU5.out.kept M);have HIS6:=hid (kC k);have HSX6:=hid k;have HSH6:=hid y;clear k y M)
  | (go_at_call 23;refine(zfb l1 l2 _ _ _ N.out.h1 N.out.h2 HLE.out.1 HLE.out.2).mono ?_;rintro e w5 ⟨S5,rfl,hs5,_,P⟩;have p:=hid (N.out.kept P);have HU5:=hid (HU4.out.kept P);have HS5:=hid hs5;clear hs5 P)
  | (go_at_call 22;refine(Tp.taped _ HP3.out.tf).mono ?_;rintro e w4 ⟨rfl,R⟩;have N:=hid (HP3.out.kept R);have HU4:=hid (HU3.out.kept R);clear R)
  | (go_at_call 21;refine(Lk.rcheck l v _ 0 _ (T.out.inp.mono T.out.low.size) (ψ _)).mono ?_;rw[HCK.out];rintro e w3 ⟨rfl,U⟩;have HP3:=hid (T.out.kept U);have HU3:=hid (HU2.out.kept U);clear U)
  | (go_at_call 20;refine(HFR.out _ _ _ _ (zc4 HY2.out.r.sh)).mono ?_;rintro e w2 ⟨ua,uc,rfl,q,hb2⟩;have T:=hid (HY2.out.kept hb2);have HU2:=hid q;clear q hb2 g0 g1 g2 gz)
  | (refine wpList_store_mid D 47 _ _ D (w1.heap.size+1) 0 #[κ a1 B c1,κ a2 E c2,κ a3 H c3] D D (HY1.out.s.there 0 3 (by simp)) kX (lH _ _ _ _ _ _ _ _ _) ?_
     refine Pl.cutL (R3 w1 X SX [κ a1 B c1,κ a2 E c2,κ a3 H c3]) HY1.out.put ?_;intro Y2 b;have HY2:Hid (Tp.Pg w w1 l1 l2 (κ b1 l1.length e1) (κ b2 l2.length e2) v l X SX (κ a1 B c1) (κ a2 E c2) (κ a3 H c3) ln sm ws Y2):=hid ⟨bw j.out b.old,⟨b,HSX.out.kept b.old,HSH.out.kept b.old⟩,HIN1.out.kept (b.old.mono j.out.size),(HH1.out.kept j.out).kept b.old,(HH2.out.kept j.out).kept b.old,(HTF.out.kept j.out).kept b.old,(HFA.out.kept j.out).kept b.old⟩;have g0:=b.s.at 0 _ D;have g1:=b.s.at 1 _ D;have g2:=b.s.at 2 _ D;have gz:=b.s.z;clear b)
  | (refine wpList_store_mid D 41 _ _ D w1.heap.size 0 (υ X SX).toArray D D (R3.th1 w1) cn (iq _ _ HIS.out) ?_
     refine Pl.cutL (R3 w1 X SX nil3) (R3.mk1 w1 X SX) ?_;intro Y1 hY1;have HY1:=hid hY1;clear hY1)
  | (go_at_call 19;refine HP.out.mono ?_;rintro e w1 ⟨SX,a1,a2,a3,B,E,H,c1,c2,c3,rfl,V,hsh,Z⟩;have j:=hid Z;have HIN1:=hid (HIN.out.kept Z);have HIS:=hid (kC V);have HSX:=hid V;have HSH:=hid hsh;clear Z V hsh))
  go_ret;exact⟨D,HP9.out.low⟩
 ·have d1:decide (which<0)=ξ:=aG hz
  have d2:(n:Int)<=which:=by omega
  clear hz hw;go_enter func5,ntmps5;go_wp2_with (first
  | (go_at_call 14;refine(Lk.sameShown (κ a1 B c1) (κ a2 E c2) (κ a3 H c3) (κ f1 m1 d1) (κ f2 m2 d2) (κ f3 m3 d3) ln sm ws _ g.out.r.sh h.out.sh HKL.out.1 HKL.out.2).mono ?_;rintro e w9 ⟨rfl,m⟩;have HP9:=hid (g.out.kept m);have HT9:=hid (h.out.kept m);have HU9:=hid (HU8.out.kept m);clear m k0 k1 k2 kz s0 s1 s2 sz)
  | (go_at_call 12;refine(rv X SX d _ I.out.r.sx L.out.sx).mono ?_;rintro e w8 ⟨rfl,o⟩;have g:=hid (I.out.kept o);have h:=hid (L.out.kept o);have HU8:=hid (HU7.out.kept o);have k0:=g.out.r.r.s.at 0 _ D;have k1:=g.out.r.r.s.at 1 _ D;have k2:=g.out.r.r.s.at 2 _ D;have kz:=g.out.r.r.s.z;have s0:=h.out.r.s.at 0 _ D;have s1:=h.out.r.s.at 1 _ D;have s2:=h.out.r.s.at 2 _ D;have sz:=h.out.r.s.z;clear o)
  | (refine Bu.loadG D 41 _ D w1.heap.size 0 D (υ X SX) _ I.out.r.r.x.c underlying41 D cn ?_)
  | (refine Bu.loadG D 41 _ D t.heap.size 0 D (υ X d) _ L.out.r.x.c underlying41 D cn ?_)
  | (refine wpList_store_mid D 47 _ _ D (t.heap.size+1) 0 #[κ f1 m1 d1,κ f2 m2 d2,κ f3 m3 d3] D D (HY6.out.s.there 0 3 (by simp)) kX (lH _ _ _ _ _ _ _ _ _) ?_
     refine Pl.cutL (R3 t X d [κ f1 m1 d1,κ f2 m2 d2,κ f3 m3 d3]) HY6.out.put ?_;intro Y7 i;have I:=hid (HP6.out.kept i.old);have L:=hid (⟨i,HSX6.out.kept i.old,HSH6.out.kept i.old⟩:LawR t X d (κ f1 m1 d1) (κ f2 m2 d2) (κ f3 m3 d3) ln sm ws Y7);have HU7:=hid (HU6.out.kept i.old);clear i)
  | (refine wpList_store_mid D 41 _ _ D t.heap.size 0 (υ X d).toArray D D (R3.th1 t) cn (iq _ _ HIS6.out) ?_
     refine Pl.cutL (R3 t X d nil3) (R3.mk1 t X d) ?_;intro Y6 hY6;have HY6:=hid hY6;clear hY6)
  | (go_at_call 16;refine(HREF.out S5 _ p.out.fa (p.out.inp.mono p.out.low.size) HS5.out).mono ?_;rintro e t ⟨d,f1,f2,f3,m1,m2,m3,d1,d2,d3,rfl,k,y,M⟩;have HP6:=hid (p.out.kept M);have HU6:=hid (HU5.out.kept M);have HIS6:=hid (kC k);have HSX6:=hid k;have HSH6:=hid y;clear k y M)
  | (go_at_call 23;refine(zfb l1 l2 _ _ _ N.out.h1 N.out.h2 HLE.out.1 HLE.out.2).mono ?_;rintro e w5 ⟨S5,rfl,hs5,_,P⟩;have p:=hid (N.out.kept P);have HU5:=hid (HU4.out.kept P);have HS5:=hid hs5;clear hs5 P)
  | (go_at_call 22;refine(Tp.taped _ HP3.out.tf).mono ?_;rintro e w4 ⟨rfl,R⟩;have N:=hid (HP3.out.kept R);have HU4:=hid (HU3.out.kept R);clear R)
  | (go_at_call 21;refine(Lk.rcheck l v _ 0 _ (T.out.inp.mono T.out.low.size) (ψ _)).mono ?_;rw[HCK.out];rintro e w3 ⟨rfl,U⟩;have HP3:=hid (T.out.kept U);have HU3:=hid (HU2.out.kept U);clear U)
  | (go_at_call 20;refine(HFR.out _ _ _ _ (zc4 HY2.out.r.sh)).mono ?_;rintro e w2 ⟨ua,uc,rfl,q,hb2⟩;have T:=hid (HY2.out.kept hb2);have HU2:=hid q;clear q hb2 g0 g1 g2 gz)
  | (refine wpList_store_mid D 47 _ _ D (w1.heap.size+1) 0 #[κ a1 B c1,κ a2 E c2,κ a3 H c3] D D (HY1.out.s.there 0 3 (by simp)) kX (lH _ _ _ _ _ _ _ _ _) ?_
     refine Pl.cutL (R3 w1 X SX [κ a1 B c1,κ a2 E c2,κ a3 H c3]) HY1.out.put ?_;intro Y2 b;have HY2:Hid (Tp.Pg w w1 l1 l2 (κ b1 l1.length e1) (κ b2 l2.length e2) v l X SX (κ a1 B c1) (κ a2 E c2) (κ a3 H c3) ln sm ws Y2):=hid ⟨bw j.out b.old,⟨b,HSX.out.kept b.old,HSH.out.kept b.old⟩,HIN1.out.kept (b.old.mono j.out.size),(HH1.out.kept j.out).kept b.old,(HH2.out.kept j.out).kept b.old,(HTF.out.kept j.out).kept b.old,(HFA.out.kept j.out).kept b.old⟩;have g0:=b.s.at 0 _ D;have g1:=b.s.at 1 _ D;have g2:=b.s.at 2 _ D;have gz:=b.s.z;clear b)
  | (refine wpList_store_mid D 41 _ _ D w1.heap.size 0 (υ X SX).toArray D D (R3.th1 w1) cn (iq _ _ HIS.out) ?_
     refine Pl.cutL (R3 w1 X SX nil3) (R3.mk1 w1 X SX) ?_;intro Y1 hY1;have HY1:=hid hY1;clear hY1)
  | (go_at_call 19;refine HP.out.mono ?_;rintro e w1 ⟨SX,a1,a2,a3,B,E,H,c1,c2,c3,rfl,V,hsh,Z⟩;have j:=hid Z;have HIN1:=hid (HIN.out.kept Z);have HIS:=hid (kC V);have HSX:=hid V;have HSH:=hid hsh;clear Z V hsh))
  go_ret;exact⟨D,HP9.out.low⟩
theorem zmz(w:u)(t:TypeId):(w.alloc (.cells (Tp.r16 (λ_=>0)).toArray t)).there w.heap.size 0 16:=(Bx.new w (Tp.r16 (λ_=>0)) t (b:=w.heap.size) rfl).there 0 16 (ψ 16)
theorem zsi(f:Nat->Int):(Tp.r16 f).toArray.all (·.oneCell')=Γ:=by simp[Tp.r16,Value.oneCell']
theorem zi0(w:u)(f:Nat->Int)(t:TypeId):Below w.heap.size w ((w.alloc (.cells (Tp.r16 (λ_=>0)).toArray t)).setCells w.heap.size 0 (Tp.r16 f))/\Bx ((w.alloc (.cells (Tp.r16 (λ_=>0)).toArray t)).setCells w.heap.size 0 (Tp.r16 f)) w.heap.size (Tp.r16 f):=by
 have h1:=(Bx.new w (Tp.r16 (λ_=>0)) t (b:=w.heap.size) D).puts 0 (Tp.r16 f) (ψ 16);rw[mK (Tp.r16 (λ_=>0)) (Tp.r16 f) D] at h1;exact⟨ni (stA (aR w) _) (ψ _) _ _,h1⟩
theorem zu9(l1 l2:List UInt8)(b1 b2:Option cK)(e1 e2:Nat)(v:π)(l:List Inp)(n:Nat)(which:Int)(w:u)(hF:Tp.F w)(hFa:Facts w)(hs1:sliceAt w (κ b1 l1.length e1) l1)(hs2:sliceAt w (κ b2 l2.length e2) l2)(hin:bP w.heap.size w v l)(hc:l1.length<=1024)(hc2:l2.length<=1024)(hn:n<=20)(hk:Go.Proofs.YthghjlinhokimaaGreatDoor.chkIn l 0=0)
 (X:Mach) (ln:List Lin) (sm:List UInt8) (ws:List Wt) (hkl:ln.length<=1000000/\ws.length<=1000000) (t:(ln.map Tp.ofLin).map (λx=>(x.f,x.l))=Tp.blks n)
 (hp:Δ ω 19 #[κ b1 l1.length e1,κ b2 l2.length e2,v,J Q n] w λe w'=>∃(SX:Sl) (a1 a2 a3:Option cK) (M N P c1 c2 c3:Nat),e=μ (Ψ #[ac (υ X SX).toArray,ac #[κ a1 M c1,κ a2 N c2,κ a3 P c3],J Q 0])/\cf w' SX X/\ShAt w' (κ a1 M c1) (κ a2 N c2) (κ a3 P c3) ln sm ws/\Below w.heap.size w w')
 (href:∀(S:Sl) (W:u),Facts W->bP W.heap.size W v l->cf W S (dv l1 l2)->Δ ω 16 #[ac (υ (dv l1 l2) S).toArray,v,J Q (640*(n:Int))] W λe w'=>∃(SX:Sl) (a1 a2 a3:Option cK) (M N P c1 c2 c3:Nat),e=μ (Ψ #[ac (υ X SX).toArray,ac #[κ a1 M c1,κ a2 N c2,κ a3 P c3]])/\cf w' SX X/\ShAt w' (κ a1 M c1) (κ a2 N c2) (κ a3 P c3) ln sm ws/\Below W.heap.size W w') (k:Nat) (hk8:which=k) (hw:k<n) :
 Δ ω 5 #[κ b1 l1.length e1,κ b2 l2.length e2,v,J Q n,J Q which] w λe w'=>e=μ (.bool Γ)/\Below w.heap.size w w':=by
 subst hk8;have d:=ziW n _ t k hw;have HAT:=hid (λ(j:Nat) (hj:j<8)=>zsg t hw hj);have R:(ln.map Tp.ofLin).length=8*n:=zeg t;have hfl:Tp.frmL k (ln.map Tp.ofLin)=Tp.pick k (ln.map Tp.ofLin) []:=by unfold Tp.frmL;rw[am d]
 have hfe:Tp.frmE k (ln.map Tp.ofLin)=0:=by unfold Tp.frmE;rw[am d]
 obtain⟨pk,hpk⟩:∃ pk,pk=Tp.pick k (ln.map Tp.ofLin) []:=⟨_,D⟩
 rw[<- hpk] at hfl d HAT;have HFR:Hid (∀(W:u) (z1 z2 z3:π),Tp.Rw W z1 (ln.map Tp.ofLin).length 18 (Tp.lncs (ln.map Tp.ofLin))->Δ ω 20 #[ac #[z1,z2,z3],J Q k] W λe w'=>∃(ua:Option cK) (uc:Nat),e=μ (Ψ #[κ ua 8 uc,J Q 0])/\Tp.Rw w' (κ ua 8 uc) pk.length 16 (Tp.pxs pk)/\Below W.heap.size W w'):=hid (λW z1 z2 z3 hr=>by
  refine(yy z1 z2 z3 _ k W hr (by have:=hkl.1;rw[bf];omega)).mono λe w' ⟨θ,he,hu,hb⟩=>?_
  have y:=ziY hu;obtain⟨a,c,rfl⟩:=tR hu;rw[hfl] at y he;rw[hfe,d] at he;rw[d] at y;exact⟨a,c,he,by rw[d];exact y,hb⟩)
 have HTF:=hid hF;have HFA:=hid hFa;have HH1:=hid hs1;have HH2:=hid hs2;have HIN:=hid hin;have HP:=hid hp;have HREF:=hid href;have HKL:=hid hkl;have HCK:=hid hk;have HLE:Hid (l1.length<=1024/\l2.length<=1024):=hid ⟨hc,hc2⟩;have q1:¬ (1024:Int)<l1.length:=by omega
 have q2:¬ (1024:Int)<l2.length:=by omega
 have q3:decide ((n:Int)<0)=ξ:=aG (by omega);have q4:¬ (20:Int)<n:=by omega
 have qn:(n:Int)<=20:=by omega
 have q0:(0:Int)<=n:=by omega
 have qw:IntKind.i64.wrap (640*(n:Int))=640*(n:Int):=by rw[aH];omega
 have HLL:=hid R;have HPL:=hid d;have d1:decide ((k:Int)<0)=ξ:=aG (by omega);have d2:decide ((n:Int)<=k)=ξ:=aG (by omega);have d3:¬ (n:Int)<=k:=by omega
 have d6:decide (n<=k)=ξ:=aG (by omega);have d7:¬ n<=k:=by omega
 have d4:(k:Int)<20:=by omega
 have d5:(0:Int)<=k:=by omega
 have HKN:Hid (k<n/\n<=20):=hid ⟨hw,hn⟩;clear t hpk hfl hfe d R hw;clear hF hFa hs1 hs2 hin hc hc2 hn hk hkl hp href;go_enter func5,ntmps5;go_wp2_with (first
  | (go_at_call 14;refine(Lk.sameShown (κ a1 M c1) (κ a2 N c2) (κ a3 P c3) (κ f1 m1 d1) (κ f2 m2 d2) (κ f3 m3 d3) ln sm ws _ g.out.r.sh h.out.sh HKL.out.1 HKL.out.2).mono ?_;rintro e w9 ⟨rfl,T⟩;have HP9:=hid (g.out.kept T);have HT9:=hid (h.out.kept T);have HU9:=hid (HU8.out.kept T);clear T k0 k1 k2 kz s0 s1 s2 sz)
  | (go_at_call 12;refine(rv X SX m _ U.out.r.sx HT7.out.sx).mono ?_;rintro e w8 ⟨rfl,hb8⟩;have g:=hid (U.out.kept hb8);have h:=hid (HT7.out.kept hb8);have HU8:=hid (HU7.out.kept hb8);have k0:=g.out.r.r.s.at 0 _ D;have k1:=g.out.r.r.s.at 1 _ D;have k2:=g.out.r.r.s.at 2 _ D;have kz:=g.out.r.r.s.z;have s0:=h.out.r.s.at 0 _ D;have s1:=h.out.r.s.at 1 _ D;have s2:=h.out.r.s.at 2 _ D;have sz:=h.out.r.s.z;clear hb8)
  | (refine Bu.loadG D 41 _ D w1.heap.size 0 D (υ X SX) _ U.out.r.r.x.c underlying41 D cn ?_)
  | (refine Bu.loadG D 41 _ D w6.heap.size 0 D (υ X m) _ HT7.out.r.x.c underlying41 D cn ?_)
  | (refine wpList_store_mid D 47 _ _ D (w6.heap.size+1) 0 #[κ f1 m1 d1,κ f2 m2 d2,κ f3 m3 d3] D D (HY6.out.s.there 0 3 (by simp)) kX (lH _ _ _ _ _ _ _ _ _) ?_
     refine Pl.cutL (R3 w6 X m [κ f1 m1 d1,κ f2 m2 d2,κ f3 m3 d3]) HY6.out.put ?_;intro Y7 B;have U:=hid (HP6.out.kept B.old);have HT7:=hid (⟨B,HSX6.out.kept B.old,HSH6.out.kept B.old⟩:LawR w6 X m (κ f1 m1 d1) (κ f2 m2 d2) (κ f3 m3 d3) ln sm ws Y7);have HU7:=hid (HU6.out.kept B.old);clear B)
  | (refine wpList_store_mid D 41 _ _ D w6.heap.size 0 (υ X m).toArray D D (R3.th1 w6) cn (iq _ _ HIS6.out) ?_
     refine Pl.cutL (R3 w6 X m nil3) (R3.mk1 w6 X m) ?_;intro Y6 hY6;have HY6:=hid hY6;clear hY6)
  | (go_at_call 16;refine(HREF.out S5 _ H.out.fa (H.out.inp.mono H.out.low.size) HS5.out).mono ?_;rintro e w6 ⟨m,f1,f2,f3,m1,m2,m3,d1,d2,d3,rfl,I,hsh6,hb6⟩;have HP6:=hid (H.out.kept hb6);have HU6:=hid (HU5.out.kept hb6);have HIS6:=hid (kC I);have HSX6:=hid I;have HSH6:=hid hsh6;clear I hsh6 hb6)
  | (go_at_call 23;refine(zfb l1 l2 _ _ _ HP4.out.h1 HP4.out.h2 HLE.out.1 HLE.out.2).mono ?_;rintro e w5 ⟨S5,rfl,hs5,_,hb5⟩;have H:=hid (HP4.out.kept hb5);have HU5:=hid (HU4.out.kept hb5);have HS5:=hid hs5;clear hs5 hb5)
  | (go_at_call 22;refine(Tp.taped _ HP3.out.tf).mono ?_;rintro e w4 ⟨rfl,hb4⟩;have HP4:=hid (HP3.out.kept hb4);have HU4:=hid (HU3.out.kept hb4);clear hb4)
  | (go_at_call 21;refine(Lk.rcheck l v _ 0 _ (HP2.out.inp.mono HP2.out.low.size) (ψ _)).mono ?_;rw[HCK.out];rintro e w3 ⟨rfl,hb3⟩;have HP3:=hid (HP2.out.kept hb3);have HU3:=hid (HU2.out.kept hb3);clear hb3)
  | (go_at_call 20;refine(HFR.out _ _ _ _ (zc4 HY2.out.r.sh)).mono ?_;rintro e w2 ⟨ua,uc,rfl,y,hb2⟩;have HP2:=hid (HY2.out.kept hb2);have HU2:=hid y;clear y hb2 g0 g1 g2 gz)
  | (refine wpList_store_mid D 47 _ _ D (w1.heap.size+1) 0 #[κ a1 M c1,κ a2 N c2,κ a3 P c3] D D (HY1.out.s.there 0 3 (by simp)) kX (lH _ _ _ _ _ _ _ _ _) ?_
     refine Pl.cutL (R3 w1 X SX [κ a1 M c1,κ a2 N c2,κ a3 P c3]) HY1.out.put ?_;intro Y2 b;have HY2:Hid (Tp.Pg w w1 l1 l2 (κ b1 l1.length e1) (κ b2 l2.length e2) v l X SX (κ a1 M c1) (κ a2 N c2) (κ a3 P c3) ln sm ws Y2):=hid ⟨bw o.out b.old,⟨b,HSX.out.kept b.old,HSH.out.kept b.old⟩,HIN1.out.kept (b.old.mono o.out.size),(HH1.out.kept o.out).kept b.old,(HH2.out.kept o.out).kept b.old,(HTF.out.kept o.out).kept b.old,(HFA.out.kept o.out).kept b.old⟩;have g0:=b.s.at 0 _ D;have g1:=b.s.at 1 _ D;have g2:=b.s.at 2 _ D;have gz:=b.s.z;clear b)
  | (refine wpList_store_mid D 41 _ _ D w1.heap.size 0 (υ X SX).toArray D D (R3.th1 w1) cn (iq _ _ HIS.out) ?_
     refine Pl.cutL (R3 w1 X SX nil3) (R3.mk1 w1 X SX) ?_;intro Y1 hY1;have HY1:=hid hY1;clear hY1)
  | (go_at_call 19;refine HP.out.mono ?_;rintro e w1 ⟨SX,a1,a2,a3,M,N,P,c1,c2,c3,rfl,hsx,hsh,hb1⟩;have o:=hid hb1;have HIN1:=hid (HIN.out.kept hb1);have HIS:=hid (kC hsx);have HSX:=hid hsx;have HSH:=hid hsh;clear hb1 hsx hsh))
 clear HP HREF o HIN1 HIS HSX HSH HY1 HY2 HP2 HU2 HP3 HU3 HP4 HU4 H HU5 HS5 HP6 HU6 HIS6 HSX6 HSH6 HY6 U HT7 HU7 g h HU8;have HSB:=hid HT9.out.r.s;have HLI:=hid (zc4 HT9.out.sh);go_loopw [129] (λi wr=>∃ j:Nat,j<=8/\i=J Q j/\Below w9.heap.size w9 wr) (λi _=>8-(intOf i).toNat)
 case atStart=>exact⟨0,by omega,D,aR w9⟩
 case round =>
  obtain⟨j,hj,rfl,hb⟩:=hrel;by_cases hlt:j<8
  ·obtain⟨x,hx1,hx2⟩:=HAT.out j hlt
   have hlt2:(j:Int)<8:=by omega
   have hj0:(0:Int)<=j:=by omega
   obtain⟨q,hq⟩:∃ q:Nat,q=8*k+j:=⟨_,D⟩
   have R:=HLL.out;have hkn:=HKN.out;have hw1:IntKind.i64.wrap (8*(k:Int))=8*(k:Int):=by rw[aH];omega
   have hw2:IntKind.i64.wrap (8*(k:Int)+(j:Int))=(q:Int):=by rw[aH];omega
   rw[<- hq] at hx1;obtain⟨g1,o1,k1,q1,z1,r1⟩:=(HU9.out.kept hb).range (show j<pk.length by rw[HPL.out];exact hlt) (ziV pk j x.px hx2);obtain⟨g2,o2,k2,q2,z2,r2⟩:=HLI.out.range (show q<(ln.map Tp.ofLin).length by omega) (zec _ q x hx1);simp only[iQ] at q1 q2;obtain⟨rfl,-,rfl⟩:=q1;obtain⟨rfl,hm1,rfl⟩:=q2;have hqm:(q:Int)<m1:=by omega
   have hq0:(0:Int)<=q:=by omega
   have HR1:Hid (wr.rangeAt g1 (o1+j*16) (Tp.r16 x.px)):=hid r1
   have HR2:Hid (∀ Z:u,Below w9.heap.size w9 Z->Z.rangeAt g2 (o2+q*18+2) (Tp.r16 x.px)):=hid (λZ hZ i θ hi=>(hZ.cell (p:=⟨g2,o2+q*18+2+i,G⟩) z2).trans (by
    have:=r2 (2+i) θ (by rw[oN];exact hi)
    rwa [<- dS] at this))
   have HB:=hid hb;have HJ:=hid hlt;have hnq:=zxt x.px;clear hx1 hx2 r1 r2 hm1 R hkn hq hb hj hlt;go_upto_region 21 with(first
    | (refine wpList_load_mid D 66 _ D g1 (o1+j*16) (by rfl) (Tp.r16 x.px) _ HR1.out underlying66 D A5 ?_)
    | (refine wpList_store_mid D 66 _ _ D wr.heap.size 0 (Tp.r16 x.px).toArray D D (zmz wr _) A5 (zsi x.px) ?_
       refine Pl.cutL (λV=>Below w9.heap.size w9 V/\Bx V wr.heap.size (Tp.r16 x.px)) ⟨bw HB.out (zi0 wr x.px _).1,(zi0 wr x.px _).2⟩ ?_;intro V hV;have HV:=hid hV;clear hV))
   refine wp_region_held_drew (S:=λw'=>w'.rangeAt wr.heap.size 0 (Tp.r16 x.px)/\w'.cell? ⟨w6.heap.size+1,0,G⟩=A (κ (A ⟨g2,o2,G⟩) m1 d1)/\w'.rangeAt g2 (o2+q*18+2) (Tp.r16 x.px)) (by kernel_rfl) ⟨HV.out.2.drew.c,(HSB.out.kept (HV.out.1.drew)).at 0 _ D,HR2.out V.drew HV.out.1.drew⟩ ?_;intro E;refine dy 1 ⟨A 135,_,_,_,_,G⟩ E ?_;simp only[ag,xA,xB,xC];refine dy 3 ⟨A 137,_,_,_,_,G⟩ E ?_;simp only[ag,xA,xB,xC];refine dy 5 ⟨A 139,_,_,_,_,G⟩ E ?_;simp only[ag,xA,xB,xC];refine dy 4 ⟨A 138,_,_,_,_,G⟩ E ?_;simp only[ag,xA,xB,xC];refine dy 6 ⟨A 140,_,_,_,_,G⟩ E ?_;simp only[ag,xA,xB,xC];refine jW 0 (ac (Tp.r16 x.px).toArray) D (λw' L=>ml 66 _ D wr.heap.size 0 D (Tp.r16 x.px) _ L.1 underlying66 D A5) E ?_;refine nU 2 (λ_ L=>L.2.1) E ?_;refine dy 7 ⟨A 141,_,_,_,_,G⟩ E ?_;simp only[ag,xA,xB,xC];refine dy 8 ⟨A 142,_,_,_,_,G⟩ E ?_;simp only[ag,xA,xB,xC];refine jW 9 (ac (Tp.r16 x.px).toArray) D (λw' L=>ml 66 _ D g2 (o2+q*18+2) D (Tp.r16 x.px) _ L.2.2 underlying66 D A5) E ?_
   refine dy 10 ⟨A 144,_,_,_,_,G⟩ E ?_;simp only[ag,xA,xB,xC];refine wpAnyH_done (by kernel_rfl) ?_ _;clear E;go_wp2;exact⟨⟨j+1,by have:=HJ.out;omega,by simp,HV.out.1.drew⟩,by have:=HJ.out;simp[intOf];omega⟩
  ·have hj8:j=8:=by omega
   subst hj8;have hnl:¬ ((8:Nat):Int)<8:=by omega
   have HB:=hid hb;clear hb;go_wp2;go_ret;exact⟨D,HP9.out.low.trans (HB.out.mono HP9.out.low.size)⟩
end Go.Proofs.YthghjlinhokimaaGreatDoor
