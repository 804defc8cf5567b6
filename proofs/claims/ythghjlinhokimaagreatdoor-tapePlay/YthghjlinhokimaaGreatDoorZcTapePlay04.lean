/-
  Parts of a proof, joined.
-/
import Derived.Test.YthghjlinhokimaaGreatDoorZcA
import Derived.Test.YthghjlinhokimaaGreatDoorZcTapePlay02
set_option linter.all false
set_option maxRecDepth 100000
set_option maxHeartbeats 6400000
namespace Go.Proofs.YthghjlinhokimaaGreatDoor
open Go.ChangeShapes Go.WideShapes Go.ChangeAt Go.RowKit Go.Proofs.Tryz
structure Tp.Pg (w w1 : World) (l1 l2 : List UInt8) (s1 s2 v : Value) (l : List Inp) (X : Mach) (SX : Sl) (p1 p2 p3 : Value) (ln : List Lin) (sm : List UInt8) (ws : List Wt) (Y : World) : Prop where
 low:Below w.heap.size w Y
 r:LawR w1 X SX p1 p2 p3 ln sm ws Y
 inp:bE w.heap.size Y v l
 h1:sliceAt Y s1 l1
 h2:sliceAt Y s2 l2
 tf:Tp.F Y
 fa:Facts Y
section
variable {w w1 Y Y' : World} {l1 l2 : List UInt8} {s1 s2 v : Value} {l : List Inp} {X : Mach} {SX : Sl} {p1 p2 p3 : Value} {ln : List Lin} {sm : List UInt8} {ws : List Wt}
theorem Tp.Pg.kept(h:Tp.Pg w w1 l1 l2 s1 s2 v l X SX p1 p2 p3 ln sm ws Y)(hb:Below Y.heap.size Y Y'):Tp.Pg w w1 l1 l2 s1 s2 v l X SX p1 p2 p3 ln sm ws Y' :=
 ⟨bn h.low hb,h.r.kept hb,h.inp.kept (hb.mono h.low.size),h.h1.kept hb,h.h2.kept hb,h.tf.kept hb,h.fa.kept hb⟩
theorem zcF{W:World}{u1 u2 u3:Value}(h:ShAt W u1 u2 u3 ln sm ws):Tp.Rw W u1 (ln.map Tp.ofLin).length 18 (Tp.lncs (ln.map Tp.ofLin)):=by
 rw[ba,zhE];exact⟨h.ln.1,h.ln.2⟩
end
theorem zpI(l1 l2:List UInt8)(b1 b2:Option Addr)(e1 e2:Nat)(v:Value)(l:List Inp)(n:Nat)(which:Int)(w:World)(hF:Tp.F w)(hFa:Facts w)(hs1:sliceAt w (.slice b1 l1.length e1) l1)(hs2:sliceAt w (.slice b2 l2.length e2) l2)(hin:bE w.heap.size w v l)(hc:l1.length<=1024)(hc2:l2.length<=1024)(hn:n<=20)(hk:Go.Proofs.YthghjlinhokimaaGreatDoor.chkIn l 0=0)
 (X:Mach) (ln:List Lin) (sm:List UInt8) (ws:List Wt) (hkl:ln.length<=1000000/\ws.length<=1000000) (hmap:(ln.map Tp.ofLin).map (λx=>(x.f,x.l))=Tp.blks n)
 (hp:Calls prog 19 #[.slice b1 l1.length e1,.slice b2 l2.length e2,v,.int .i64 n] w λe w'=>∃(SX:Sl) (a1 a2 a3:Option Addr) (B E H c1 c2 c3:Nat),e=.returned (.tuple #[.agg (D X SX).toArray,.agg #[.slice a1 B c1,.slice a2 E c2,.slice a3 H c3],.int .i64 0])/\bM w' SX X/\ShAt w' (.slice a1 B c1) (.slice a2 E c2) (.slice a3 H c3) ln sm ws/\Below w.heap.size w w')
 (href:∀(S:Sl) (W:World),Facts W->bE W.heap.size W v l->bM W S (cq l1 l2)->Calls prog 16 #[.agg (D (cq l1 l2) S).toArray,v,.int .i64 (640*(n:Int))] W λe w'=>∃(SX:Sl) (a1 a2 a3:Option Addr) (B E H c1 c2 c3:Nat),e=.returned (.tuple #[.agg (D X SX).toArray,.agg #[.slice a1 B c1,.slice a2 E c2,.slice a3 H c3]])/\bM w' SX X/\ShAt w' (.slice a1 B c1) (.slice a2 E c2) (.slice a3 H c3) ln sm ws/\Below W.heap.size W w') (hw:¬ (0<=which/\which<n)) :
 Calls prog 5 #[.slice b1 l1.length e1,.slice b2 l2.length e2,v,.int .i64 n,.int .i64 which] w λe w'=>e=.returned (.bool true)/\Below w.heap.size w w':=by
 have hpk:Tp.pick which (ln.map Tp.ofLin) []=[]:=s7 _ _ [] (λx hx e=>by have:=zdm n _ (vy hmap hx);simp only at this;omega);have hfl:Tp.frmL which (ln.map Tp.ofLin)=[]:=by unfold Tp.frmL;rw[hpk];rfl
 have hfe:Tp.frmE which (ln.map Tp.ofLin)=5:=by unfold Tp.frmE;rw[hpk];rfl
 have HFR:Hid (∀(W:World) (z1 z2 z3:Value),Tp.Rw W z1 (ln.map Tp.ofLin).length 18 (Tp.lncs (ln.map Tp.ofLin))->Calls prog 20 #[.agg #[z1,z2,z3],.int .i64 which] W λe w'=>∃(ua:Option Addr) (uc:Nat),e=.returned (.tuple #[.slice ua 0 uc,.int .i64 5])/\Tp.Rw w' (.slice ua 0 uc) ([]:List (Nat->Int)).length 16 (Tp.pxs ([]:List (Nat->Int)))/\Below W.heap.size W w'):=hid (λW z1 z2 z3 hr=>by
  refine(rE z1 z2 z3 _ which W hr (by have:=hkl.1;rw[ba];omega)).mono λe w' ⟨u,he,hu,hb⟩=>?_
  have q:=zhF hu;obtain⟨a,c,rfl⟩:=oG hu;rw[hfl] at q he;rw[hfe] at he;exact⟨a,c,he,q,hb⟩)
 have HTF:=hid hF;have HFA:=hid hFa;have HH1:=hid hs1;have HH2:=hid hs2;have HIN:=hid hin;have HP:=hid hp;have HREF:=hid href;have HKL:=hid hkl;have HCK:=hid hk;have HLE:Hid (l1.length<=1024/\l2.length<=1024):=hid ⟨hc,hc2⟩;have q1:¬ (1024:Int)<l1.length:=by omega
 have q2:¬ (1024:Int)<l2.length:=by omega
 have q3:decide ((n:Int)<0)=false:=aF (by omega);have q4:¬ (20:Int)<n:=by omega
 have qn:(n:Int)<=20:=by omega
 have q0:(0:Int)<=n:=by omega
 have qw:IntKind.i64.wrap (640*(n:Int))=640*(n:Int):=by rw[aI];omega
 clear hmap hpk hfl hfe;clear hF hFa hs1 hs2 hin hc hc2 hn hk hkl hp href;by_cases hz:which<0
 ·have d1:decide (which<0)=true:=aL hz
  clear hz hw;go_enter func5,ntmps5;go_wp2_with (first
  | (go_at_call 14;refine(Lk.sameShown (.slice a1 B c1) (.slice a2 E c2) (.slice a3 H c3) (.slice f1 m1 d1) (.slice f2 m2 d2) (.slice f3 m3 d3) ln sm ws _ g.out.r.sh h.out.sh HKL.out.1 HKL.out.2).mono ?_;rintro e w9 ⟨rfl,m⟩;have HP9:=hid (g.out.kept m);have HT9:=hid (h.out.kept m);have HU9:=hid (HU8.out.kept m);clear m k0 k1 k2 kz s0 s1 s2 sz)
  | (go_at_call 12;refine(oB X SX d _ I.out.r.sx L.out.sx).mono ?_;rintro e w8 ⟨rfl,o⟩;have g:=hid (I.out.kept o);have h:=hid (L.out.kept o);have HU8:=hid (HU7.out.kept o);have k0:=g.out.r.r.s.at 0 _ U;have k1:=g.out.r.r.s.at 1 _ U;have k2:=g.out.r.r.s.at 2 _ U;have kz:=g.out.r.r.s.z;have s0:=h.out.r.s.at 0 _ U;have s1:=h.out.r.s.at 1 _ U;have s2:=h.out.r.s.at 2 _ U;have sz:=h.out.r.s.z;clear o)
  | (refine Bu.loadG U 41 _ U w1.heap.size 0 U (D X SX) _ I.out.r.r.x.c underlying41 U bV ?_)
  | (refine Bu.loadG U 41 _ U t.heap.size 0 U (D X d) _ L.out.r.x.c underlying41 U bV ?_)
  | (refine wpList_store_mid U 47 _ _ U (t.heap.size+1) 0 #[.slice f1 m1 d1,.slice f2 m2 d2,.slice f3 m3 d3] U U (HY6.out.s.there 0 3 (by simp)) jK (jO _ _ _ _ _ _ _ _ _) ?_
     refine Pl.cutL (R3 t X d [.slice f1 m1 d1,.slice f2 m2 d2,.slice f3 m3 d3]) HY6.out.put ?_;intro Y7 i;have I:=hid (HP6.out.kept i.old);have L:=hid (⟨i,HSX6.out.kept i.old,HSH6.out.kept i.old⟩:LawR t X d (.slice f1 m1 d1) (.slice f2 m2 d2) (.slice f3 m3 d3) ln sm ws Y7);have HU7:=hid (HU6.out.kept i.old);clear i)
  | (refine wpList_store_mid U 41 _ _ U t.heap.size 0 (D X d).toArray U U (R3.th1 t) bV (fG _ _ HIS6.out) ?_
     refine Pl.cutL (R3 t X d nil3) (R3.mk1 t X d) ?_;intro Y6 hY6;have HY6:=hid hY6;clear hY6)
  | (go_at_call 16;refine(HREF.out S5 _ p.out.fa (p.out.inp.mono p.out.low.size) HS5.out).mono ?_;rintro e t ⟨d,f1,f2,f3,m1,m2,m3,d1,d2,d3,rfl,k,y,M⟩;have HP6:=hid (p.out.kept M);have HU6:=hid (HU5.out.kept M);have HIS6:=hid (jL k);have HSX6:=hid k;have HSH6:=hid y;clear k y M)
  | (go_at_call 23;refine(zeC l1 l2 _ _ _ N.out.h1 N.out.h2 HLE.out.1 HLE.out.2).mono ?_;rintro e w5 ⟨S5,rfl,hs5,_,P⟩;have p:=hid (N.out.kept P);have HU5:=hid (HU4.out.kept P);have HS5:=hid hs5;clear hs5 P)
  | (go_at_call 22;refine(Tp.taped _ HP3.out.tf).mono ?_;rintro e w4 ⟨rfl,R⟩;have N:=hid (HP3.out.kept R);have HU4:=hid (HU3.out.kept R);clear R)
  | (go_at_call 21;refine(Lk.rcheck l v _ 0 _ (T.out.inp.mono T.out.low.size) (ak _)).mono ?_;rw[HCK.out];rintro e w3 ⟨rfl,V⟩;have HP3:=hid (T.out.kept V);have HU3:=hid (HU2.out.kept V);clear V)
  | (go_at_call 20;refine(HFR.out _ _ _ _ (zcF HY2.out.r.sh)).mono ?_;rintro e w2 ⟨ua,uc,rfl,q,hb2⟩;have T:=hid (HY2.out.kept hb2);have HU2:=hid q;clear q hb2 g0 g1 g2 gz)
  | (refine wpList_store_mid U 47 _ _ U (w1.heap.size+1) 0 #[.slice a1 B c1,.slice a2 E c2,.slice a3 H c3] U U (HY1.out.s.there 0 3 (by simp)) jK (jO _ _ _ _ _ _ _ _ _) ?_
     refine Pl.cutL (R3 w1 X SX [.slice a1 B c1,.slice a2 E c2,.slice a3 H c3]) HY1.out.put ?_;intro Y2 b;have HY2:Hid (Tp.Pg w w1 l1 l2 (.slice b1 l1.length e1) (.slice b2 l2.length e2) v l X SX (.slice a1 B c1) (.slice a2 E c2) (.slice a3 H c3) ln sm ws Y2):=hid ⟨bn j.out b.old,⟨b,HSX.out.kept b.old,HSH.out.kept b.old⟩,HIN1.out.kept (b.old.mono j.out.size),(HH1.out.kept j.out).kept b.old,(HH2.out.kept j.out).kept b.old,(HTF.out.kept j.out).kept b.old,(HFA.out.kept j.out).kept b.old⟩;have g0:=b.s.at 0 _ U;have g1:=b.s.at 1 _ U;have g2:=b.s.at 2 _ U;have gz:=b.s.z;clear b)
  | (refine wpList_store_mid U 41 _ _ U w1.heap.size 0 (D X SX).toArray U U (R3.th1 w1) bV (fG _ _ HIS.out) ?_
     refine Pl.cutL (R3 w1 X SX nil3) (R3.mk1 w1 X SX) ?_;intro Y1 hY1;have HY1:=hid hY1;clear hY1)
  | (go_at_call 19;refine HP.out.mono ?_;rintro e w1 ⟨SX,a1,a2,a3,B,E,H,c1,c2,c3,rfl,Y,hsh,Z⟩;have j:=hid Z;have HIN1:=hid (HIN.out.kept Z);have HIS:=hid (jL Y);have HSX:=hid Y;have HSH:=hid hsh;clear Z Y hsh))
  go_ret;exact⟨U,HP9.out.low⟩
 ·have d1:decide (which<0)=false:=aF hz
  have d2:(n:Int)<=which:=by omega
  clear hz hw;go_enter func5,ntmps5;go_wp2_with (first
  | (go_at_call 14;refine(Lk.sameShown (.slice a1 B c1) (.slice a2 E c2) (.slice a3 H c3) (.slice f1 m1 d1) (.slice f2 m2 d2) (.slice f3 m3 d3) ln sm ws _ g.out.r.sh h.out.sh HKL.out.1 HKL.out.2).mono ?_;rintro e w9 ⟨rfl,m⟩;have HP9:=hid (g.out.kept m);have HT9:=hid (h.out.kept m);have HU9:=hid (HU8.out.kept m);clear m k0 k1 k2 kz s0 s1 s2 sz)
  | (go_at_call 12;refine(oB X SX d _ I.out.r.sx L.out.sx).mono ?_;rintro e w8 ⟨rfl,o⟩;have g:=hid (I.out.kept o);have h:=hid (L.out.kept o);have HU8:=hid (HU7.out.kept o);have k0:=g.out.r.r.s.at 0 _ U;have k1:=g.out.r.r.s.at 1 _ U;have k2:=g.out.r.r.s.at 2 _ U;have kz:=g.out.r.r.s.z;have s0:=h.out.r.s.at 0 _ U;have s1:=h.out.r.s.at 1 _ U;have s2:=h.out.r.s.at 2 _ U;have sz:=h.out.r.s.z;clear o)
  | (refine Bu.loadG U 41 _ U w1.heap.size 0 U (D X SX) _ I.out.r.r.x.c underlying41 U bV ?_)
  | (refine Bu.loadG U 41 _ U t.heap.size 0 U (D X d) _ L.out.r.x.c underlying41 U bV ?_)
  | (refine wpList_store_mid U 47 _ _ U (t.heap.size+1) 0 #[.slice f1 m1 d1,.slice f2 m2 d2,.slice f3 m3 d3] U U (HY6.out.s.there 0 3 (by simp)) jK (jO _ _ _ _ _ _ _ _ _) ?_
     refine Pl.cutL (R3 t X d [.slice f1 m1 d1,.slice f2 m2 d2,.slice f3 m3 d3]) HY6.out.put ?_;intro Y7 i;have I:=hid (HP6.out.kept i.old);have L:=hid (⟨i,HSX6.out.kept i.old,HSH6.out.kept i.old⟩:LawR t X d (.slice f1 m1 d1) (.slice f2 m2 d2) (.slice f3 m3 d3) ln sm ws Y7);have HU7:=hid (HU6.out.kept i.old);clear i)
  | (refine wpList_store_mid U 41 _ _ U t.heap.size 0 (D X d).toArray U U (R3.th1 t) bV (fG _ _ HIS6.out) ?_
     refine Pl.cutL (R3 t X d nil3) (R3.mk1 t X d) ?_;intro Y6 hY6;have HY6:=hid hY6;clear hY6)
  | (go_at_call 16;refine(HREF.out S5 _ p.out.fa (p.out.inp.mono p.out.low.size) HS5.out).mono ?_;rintro e t ⟨d,f1,f2,f3,m1,m2,m3,d1,d2,d3,rfl,k,y,M⟩;have HP6:=hid (p.out.kept M);have HU6:=hid (HU5.out.kept M);have HIS6:=hid (jL k);have HSX6:=hid k;have HSH6:=hid y;clear k y M)
  | (go_at_call 23;refine(zeC l1 l2 _ _ _ N.out.h1 N.out.h2 HLE.out.1 HLE.out.2).mono ?_;rintro e w5 ⟨S5,rfl,hs5,_,P⟩;have p:=hid (N.out.kept P);have HU5:=hid (HU4.out.kept P);have HS5:=hid hs5;clear hs5 P)
  | (go_at_call 22;refine(Tp.taped _ HP3.out.tf).mono ?_;rintro e w4 ⟨rfl,R⟩;have N:=hid (HP3.out.kept R);have HU4:=hid (HU3.out.kept R);clear R)
  | (go_at_call 21;refine(Lk.rcheck l v _ 0 _ (T.out.inp.mono T.out.low.size) (ak _)).mono ?_;rw[HCK.out];rintro e w3 ⟨rfl,V⟩;have HP3:=hid (T.out.kept V);have HU3:=hid (HU2.out.kept V);clear V)
  | (go_at_call 20;refine(HFR.out _ _ _ _ (zcF HY2.out.r.sh)).mono ?_;rintro e w2 ⟨ua,uc,rfl,q,hb2⟩;have T:=hid (HY2.out.kept hb2);have HU2:=hid q;clear q hb2 g0 g1 g2 gz)
  | (refine wpList_store_mid U 47 _ _ U (w1.heap.size+1) 0 #[.slice a1 B c1,.slice a2 E c2,.slice a3 H c3] U U (HY1.out.s.there 0 3 (by simp)) jK (jO _ _ _ _ _ _ _ _ _) ?_
     refine Pl.cutL (R3 w1 X SX [.slice a1 B c1,.slice a2 E c2,.slice a3 H c3]) HY1.out.put ?_;intro Y2 b;have HY2:Hid (Tp.Pg w w1 l1 l2 (.slice b1 l1.length e1) (.slice b2 l2.length e2) v l X SX (.slice a1 B c1) (.slice a2 E c2) (.slice a3 H c3) ln sm ws Y2):=hid ⟨bn j.out b.old,⟨b,HSX.out.kept b.old,HSH.out.kept b.old⟩,HIN1.out.kept (b.old.mono j.out.size),(HH1.out.kept j.out).kept b.old,(HH2.out.kept j.out).kept b.old,(HTF.out.kept j.out).kept b.old,(HFA.out.kept j.out).kept b.old⟩;have g0:=b.s.at 0 _ U;have g1:=b.s.at 1 _ U;have g2:=b.s.at 2 _ U;have gz:=b.s.z;clear b)
  | (refine wpList_store_mid U 41 _ _ U w1.heap.size 0 (D X SX).toArray U U (R3.th1 w1) bV (fG _ _ HIS.out) ?_
     refine Pl.cutL (R3 w1 X SX nil3) (R3.mk1 w1 X SX) ?_;intro Y1 hY1;have HY1:=hid hY1;clear hY1)
  | (go_at_call 19;refine HP.out.mono ?_;rintro e w1 ⟨SX,a1,a2,a3,B,E,H,c1,c2,c3,rfl,Y,hsh,Z⟩;have j:=hid Z;have HIN1:=hid (HIN.out.kept Z);have HIS:=hid (jL Y);have HSX:=hid Y;have HSH:=hid hsh;clear Z Y hsh))
  go_ret;exact⟨U,HP9.out.low⟩
theorem zkP(w:World)(t:TypeId):(w.alloc (.cells (Tp.r16 (λ_=>0)).toArray t)).there w.heap.size 0 16:=(Bx.new w (Tp.r16 (λ_=>0)) t (b:=w.heap.size) rfl).there 0 16 (ak 16)
theorem zpJ(f:Nat->Int):(Tp.r16 f).toArray.all (·.oneCell')=true:=by simp[Tp.r16,Value.oneCell']
theorem zhH(w:World)(f:Nat->Int)(t:TypeId):Below w.heap.size w ((w.alloc (.cells (Tp.r16 (λ_=>0)).toArray t)).setCells w.heap.size 0 (Tp.r16 f))/\Bx ((w.alloc (.cells (Tp.r16 (λ_=>0)).toArray t)).setCells w.heap.size 0 (Tp.r16 f)) w.heap.size (Tp.r16 f):=by
 have h1:=(Bx.new w (Tp.r16 (λ_=>0)) t (b:=w.heap.size) U).puts 0 (Tp.r16 f) (ak 16);rw[jJ (Tp.r16 (λ_=>0)) (Tp.r16 f) U] at h1;exact⟨j4 (stA (J w) _) (ak _) _ _,h1⟩
theorem zsy(l1 l2:List UInt8)(b1 b2:Option Addr)(e1 e2:Nat)(v:Value)(l:List Inp)(n:Nat)(which:Int)(w:World)(hF:Tp.F w)(hFa:Facts w)(hs1:sliceAt w (.slice b1 l1.length e1) l1)(hs2:sliceAt w (.slice b2 l2.length e2) l2)(hin:bE w.heap.size w v l)(hc:l1.length<=1024)(hc2:l2.length<=1024)(hn:n<=20)(hk:Go.Proofs.YthghjlinhokimaaGreatDoor.chkIn l 0=0)
 (X:Mach) (ln:List Lin) (sm:List UInt8) (ws:List Wt) (hkl:ln.length<=1000000/\ws.length<=1000000) (t:(ln.map Tp.ofLin).map (λx=>(x.f,x.l))=Tp.blks n)
 (hp:Calls prog 19 #[.slice b1 l1.length e1,.slice b2 l2.length e2,v,.int .i64 n] w λe w'=>∃(SX:Sl) (a1 a2 a3:Option Addr) (M N P c1 c2 c3:Nat),e=.returned (.tuple #[.agg (D X SX).toArray,.agg #[.slice a1 M c1,.slice a2 N c2,.slice a3 P c3],.int .i64 0])/\bM w' SX X/\ShAt w' (.slice a1 M c1) (.slice a2 N c2) (.slice a3 P c3) ln sm ws/\Below w.heap.size w w')
 (href:∀(S:Sl) (W:World),Facts W->bE W.heap.size W v l->bM W S (cq l1 l2)->Calls prog 16 #[.agg (D (cq l1 l2) S).toArray,v,.int .i64 (640*(n:Int))] W λe w'=>∃(SX:Sl) (a1 a2 a3:Option Addr) (M N P c1 c2 c3:Nat),e=.returned (.tuple #[.agg (D X SX).toArray,.agg #[.slice a1 M c1,.slice a2 N c2,.slice a3 P c3]])/\bM w' SX X/\ShAt w' (.slice a1 M c1) (.slice a2 N c2) (.slice a3 P c3) ln sm ws/\Below W.heap.size W w') (k:Nat) (hk8:which=k) (hw:k<n) :
 Calls prog 5 #[.slice b1 l1.length e1,.slice b2 l2.length e2,v,.int .i64 n,.int .i64 which] w λe w'=>e=.returned (.bool true)/\Below w.heap.size w w':=by
 subst hk8;have d:=zhD n _ t k hw;have HAT:=hid (λ(j:Nat) (hj:j<8)=>zpH t hw hj);have R:(ln.map Tp.ofLin).length=8*n:=zdO t;have hfl:Tp.frmL k (ln.map Tp.ofLin)=Tp.pick k (ln.map Tp.ofLin) []:=by unfold Tp.frmL;rw[Q d]
 have hfe:Tp.frmE k (ln.map Tp.ofLin)=0:=by unfold Tp.frmE;rw[Q d]
 obtain⟨pk,hpk⟩:∃ pk,pk=Tp.pick k (ln.map Tp.ofLin) []:=⟨_,U⟩
 rw[<- hpk] at hfl d HAT;have HFR:Hid (∀(W:World) (z1 z2 z3:Value),Tp.Rw W z1 (ln.map Tp.ofLin).length 18 (Tp.lncs (ln.map Tp.ofLin))->Calls prog 20 #[.agg #[z1,z2,z3],.int .i64 k] W λe w'=>∃(ua:Option Addr) (uc:Nat),e=.returned (.tuple #[.slice ua 8 uc,.int .i64 0])/\Tp.Rw w' (.slice ua 8 uc) pk.length 16 (Tp.pxs pk)/\Below W.heap.size W w'):=hid (λW z1 z2 z3 hr=>by
  refine(rE z1 z2 z3 _ k W hr (by have:=hkl.1;rw[ba];omega)).mono λe w' ⟨u,he,hu,hb⟩=>?_
  have y:=zhF hu;obtain⟨a,c,rfl⟩:=oG hu;rw[hfl] at y he;rw[hfe,d] at he;rw[d] at y;exact⟨a,c,he,by rw[d];exact y,hb⟩)
 have HTF:=hid hF;have HFA:=hid hFa;have HH1:=hid hs1;have HH2:=hid hs2;have HIN:=hid hin;have HP:=hid hp;have HREF:=hid href;have HKL:=hid hkl;have HCK:=hid hk;have HLE:Hid (l1.length<=1024/\l2.length<=1024):=hid ⟨hc,hc2⟩;have q1:¬ (1024:Int)<l1.length:=by omega
 have q2:¬ (1024:Int)<l2.length:=by omega
 have q3:decide ((n:Int)<0)=false:=aF (by omega);have q4:¬ (20:Int)<n:=by omega
 have qn:(n:Int)<=20:=by omega
 have q0:(0:Int)<=n:=by omega
 have qw:IntKind.i64.wrap (640*(n:Int))=640*(n:Int):=by rw[aI];omega
 have HLL:=hid R;have HPL:=hid d;have d1:decide ((k:Int)<0)=false:=aF (by omega);have d2:decide ((n:Int)<=k)=false:=aF (by omega);have d3:¬ (n:Int)<=k:=by omega
 have d6:decide (n<=k)=false:=aF (by omega);have d7:¬ n<=k:=by omega
 have d4:(k:Int)<20:=by omega
 have d5:(0:Int)<=k:=by omega
 have HKN:Hid (k<n/\n<=20):=hid ⟨hw,hn⟩;clear t hpk hfl hfe d R hw;clear hF hFa hs1 hs2 hin hc hc2 hn hk hkl hp href;go_enter func5,ntmps5;go_wp2_with (first
  | (go_at_call 14;refine(Lk.sameShown (.slice a1 M c1) (.slice a2 N c2) (.slice a3 P c3) (.slice f1 m1 d1) (.slice f2 m2 d2) (.slice f3 m3 d3) ln sm ws _ g.out.r.sh h.out.sh HKL.out.1 HKL.out.2).mono ?_;rintro e w9 ⟨rfl,T⟩;have HP9:=hid (g.out.kept T);have HT9:=hid (h.out.kept T);have HU9:=hid (HU8.out.kept T);clear T k0 k1 k2 kz s0 s1 s2 sz)
  | (go_at_call 12;refine(oB X SX m _ Y.out.r.sx HT7.out.sx).mono ?_;rintro e w8 ⟨rfl,hb8⟩;have g:=hid (Y.out.kept hb8);have h:=hid (HT7.out.kept hb8);have HU8:=hid (HU7.out.kept hb8);have k0:=g.out.r.r.s.at 0 _ U;have k1:=g.out.r.r.s.at 1 _ U;have k2:=g.out.r.r.s.at 2 _ U;have kz:=g.out.r.r.s.z;have s0:=h.out.r.s.at 0 _ U;have s1:=h.out.r.s.at 1 _ U;have s2:=h.out.r.s.at 2 _ U;have sz:=h.out.r.s.z;clear hb8)
  | (refine Bu.loadG U 41 _ U w1.heap.size 0 U (D X SX) _ Y.out.r.r.x.c underlying41 U bV ?_)
  | (refine Bu.loadG U 41 _ U w6.heap.size 0 U (D X m) _ HT7.out.r.x.c underlying41 U bV ?_)
  | (refine wpList_store_mid U 47 _ _ U (w6.heap.size+1) 0 #[.slice f1 m1 d1,.slice f2 m2 d2,.slice f3 m3 d3] U U (HY6.out.s.there 0 3 (by simp)) jK (jO _ _ _ _ _ _ _ _ _) ?_
     refine Pl.cutL (R3 w6 X m [.slice f1 m1 d1,.slice f2 m2 d2,.slice f3 m3 d3]) HY6.out.put ?_;intro Y7 B;have Y:=hid (HP6.out.kept B.old);have HT7:=hid (⟨B,HSX6.out.kept B.old,HSH6.out.kept B.old⟩:LawR w6 X m (.slice f1 m1 d1) (.slice f2 m2 d2) (.slice f3 m3 d3) ln sm ws Y7);have HU7:=hid (HU6.out.kept B.old);clear B)
  | (refine wpList_store_mid U 41 _ _ U w6.heap.size 0 (D X m).toArray U U (R3.th1 w6) bV (fG _ _ HIS6.out) ?_
     refine Pl.cutL (R3 w6 X m nil3) (R3.mk1 w6 X m) ?_;intro Y6 hY6;have HY6:=hid hY6;clear hY6)
  | (go_at_call 16;refine(HREF.out S5 _ H.out.fa (H.out.inp.mono H.out.low.size) HS5.out).mono ?_;rintro e w6 ⟨m,f1,f2,f3,m1,m2,m3,d1,d2,d3,rfl,I,hsh6,hb6⟩;have HP6:=hid (H.out.kept hb6);have HU6:=hid (HU5.out.kept hb6);have HIS6:=hid (jL I);have HSX6:=hid I;have HSH6:=hid hsh6;clear I hsh6 hb6)
  | (go_at_call 23;refine(zeC l1 l2 _ _ _ HP4.out.h1 HP4.out.h2 HLE.out.1 HLE.out.2).mono ?_;rintro e w5 ⟨S5,rfl,hs5,_,hb5⟩;have H:=hid (HP4.out.kept hb5);have HU5:=hid (HU4.out.kept hb5);have HS5:=hid hs5;clear hs5 hb5)
  | (go_at_call 22;refine(Tp.taped _ HP3.out.tf).mono ?_;rintro e w4 ⟨rfl,hb4⟩;have HP4:=hid (HP3.out.kept hb4);have HU4:=hid (HU3.out.kept hb4);clear hb4)
  | (go_at_call 21;refine(Lk.rcheck l v _ 0 _ (HP2.out.inp.mono HP2.out.low.size) (ak _)).mono ?_;rw[HCK.out];rintro e w3 ⟨rfl,hb3⟩;have HP3:=hid (HP2.out.kept hb3);have HU3:=hid (HU2.out.kept hb3);clear hb3)
  | (go_at_call 20;refine(HFR.out _ _ _ _ (zcF HY2.out.r.sh)).mono ?_;rintro e w2 ⟨ua,uc,rfl,y,hb2⟩;have HP2:=hid (HY2.out.kept hb2);have HU2:=hid y;clear y hb2 g0 g1 g2 gz)
  | (refine wpList_store_mid U 47 _ _ U (w1.heap.size+1) 0 #[.slice a1 M c1,.slice a2 N c2,.slice a3 P c3] U U (HY1.out.s.there 0 3 (by simp)) jK (jO _ _ _ _ _ _ _ _ _) ?_
     refine Pl.cutL (R3 w1 X SX [.slice a1 M c1,.slice a2 N c2,.slice a3 P c3]) HY1.out.put ?_;intro Y2 b;have HY2:Hid (Tp.Pg w w1 l1 l2 (.slice b1 l1.length e1) (.slice b2 l2.length e2) v l X SX (.slice a1 M c1) (.slice a2 N c2) (.slice a3 P c3) ln sm ws Y2):=hid ⟨bn o.out b.old,⟨b,HSX.out.kept b.old,HSH.out.kept b.old⟩,HIN1.out.kept (b.old.mono o.out.size),(HH1.out.kept o.out).kept b.old,(HH2.out.kept o.out).kept b.old,(HTF.out.kept o.out).kept b.old,(HFA.out.kept o.out).kept b.old⟩;have g0:=b.s.at 0 _ U;have g1:=b.s.at 1 _ U;have g2:=b.s.at 2 _ U;have gz:=b.s.z;clear b)
  | (refine wpList_store_mid U 41 _ _ U w1.heap.size 0 (D X SX).toArray U U (R3.th1 w1) bV (fG _ _ HIS.out) ?_
     refine Pl.cutL (R3 w1 X SX nil3) (R3.mk1 w1 X SX) ?_;intro Y1 hY1;have HY1:=hid hY1;clear hY1)
  | (go_at_call 19;refine HP.out.mono ?_;rintro e w1 ⟨SX,a1,a2,a3,M,N,P,c1,c2,c3,rfl,hsx,hsh,hb1⟩;have o:=hid hb1;have HIN1:=hid (HIN.out.kept hb1);have HIS:=hid (jL hsx);have HSX:=hid hsx;have HSH:=hid hsh;clear hb1 hsx hsh))
 clear HP HREF o HIN1 HIS HSX HSH HY1 HY2 HP2 HU2 HP3 HU3 HP4 HU4 H HU5 HS5 HP6 HU6 HIS6 HSX6 HSH6 HY6 Y HT7 HU7 g h HU8;have HSB:=hid HT9.out.r.s;have HLI:=hid (zcF HT9.out.sh);go_loopw [129] (λi wr=>∃ j:Nat,j<=8/\i=.int .i64 j/\Below w9.heap.size w9 wr) (λi _=>8-(intOf i).toNat)
 case atStart=>exact⟨0,by omega,U,J w9⟩
 case round =>
  obtain⟨j,hj,rfl,hb⟩:=hrel;by_cases hlt:j<8
  ·obtain⟨x,hx1,hx2⟩:=HAT.out j hlt
   have hlt2:(j:Int)<8:=by omega
   have hj0:(0:Int)<=j:=by omega
   obtain⟨q,hq⟩:∃ q:Nat,q=8*k+j:=⟨_,U⟩
   have R:=HLL.out;have hkn:=HKN.out;have hw1:IntKind.i64.wrap (8*(k:Int))=8*(k:Int):=by rw[aI];omega
   have hw2:IntKind.i64.wrap (8*(k:Int)+(j:Int))=(q:Int):=by rw[aI];omega
   rw[<- hq] at hx1;obtain⟨g1,o1,k1,q1,z1,r1⟩:=(HU9.out.kept hb).range (show j<pk.length by rw[HPL.out];exact hlt) (zhC pk j x.px hx2);obtain⟨g2,o2,k2,q2,z2,r2⟩:=HLI.out.range (show q<(ln.map Tp.ofLin).length by omega) (zdK _ q x hx1);simp only[fd] at q1 q2;obtain⟨rfl,-,rfl⟩:=q1;obtain⟨rfl,hm1,rfl⟩:=q2;have hqm:(q:Int)<m1:=by omega
   have hq0:(0:Int)<=q:=by omega
   have HR1:Hid (wr.rangeAt g1 (o1+j*16) (Tp.r16 x.px)):=hid r1
   have HR2:Hid (∀ Z:World,Below w9.heap.size w9 Z->Z.rangeAt g2 (o2+q*18+2) (Tp.r16 x.px)):=hid (λZ hZ i u hi=>(hZ.cell (p:=⟨g2,o2+q*18+2+i,none⟩) z2).trans (by
    have:=r2 (2+i) u (by rw[kF];exact hi)
    rwa [<- cA] at this))
   have HB:=hid hb;have HJ:=hid hlt;have hnq:=zuG x.px;clear hx1 hx2 r1 r2 hm1 R hkn hq hb hj hlt;go_upto_region 21 with(first
    | (refine wpList_load_mid U 66 _ U g1 (o1+j*16) (by rfl) (Tp.r16 x.px) _ HR1.out underlying66 U vx ?_)
    | (refine wpList_store_mid U 66 _ _ U wr.heap.size 0 (Tp.r16 x.px).toArray U U (zkP wr _) vx (zpJ x.px) ?_
       refine Pl.cutL (λV=>Below w9.heap.size w9 V/\Bx V wr.heap.size (Tp.r16 x.px)) ⟨bn HB.out (zhH wr x.px _).1,(zhH wr x.px _).2⟩ ?_;intro V hV;have HV:=hid hV;clear hV))
   refine wp_region_held_drew (S:=λw'=>w'.rangeAt wr.heap.size 0 (Tp.r16 x.px)/\w'.cell? ⟨w6.heap.size+1,0,none⟩=some (.slice (some ⟨g2,o2,none⟩) m1 d1)/\w'.rangeAt g2 (o2+q*18+2) (Tp.r16 x.px)) (by kernel_rfl) ⟨HV.out.2.drew.c,(HSB.out.kept (HV.out.1.drew)).at 0 _ U,HR2.out V.drew HV.out.1.drew⟩ ?_;intro E;refine ee 1 ⟨some 135,_,_,_,_,none⟩ E ?_;simp only[Act.put,xA,xB,xC];refine ee 3 ⟨some 137,_,_,_,_,none⟩ E ?_;simp only[Act.put,xA,xB,xC];refine ee 5 ⟨some 139,_,_,_,_,none⟩ E ?_;simp only[Act.put,xA,xB,xC];refine ee 4 ⟨some 138,_,_,_,_,none⟩ E ?_;simp only[Act.put,xA,xB,xC];refine ee 6 ⟨some 140,_,_,_,_,none⟩ E ?_;simp only[Act.put,xA,xB,xC];refine iq 0 (.agg (Tp.r16 x.px).toArray) U (λw' L=>kt 66 _ U wr.heap.size 0 U (Tp.r16 x.px) _ L.1 underlying66 U vx) E ?_;refine nW 2 (λ_ L=>L.2.1) E ?_;refine ee 7 ⟨some 141,_,_,_,_,none⟩ E ?_;simp only[Act.put,xA,xB,xC];refine ee 8 ⟨some 142,_,_,_,_,none⟩ E ?_
   simp only[Act.put,xA,xB,xC];refine iq 9 (.agg (Tp.r16 x.px).toArray) U (λw' L=>kt 66 _ U g2 (o2+q*18+2) U (Tp.r16 x.px) _ L.2.2 underlying66 U vx) E ?_;refine ee 10 ⟨some 144,_,_,_,_,none⟩ E ?_;simp only[Act.put,xA,xB,xC];refine wpAnyH_done (by kernel_rfl) ?_ _;clear E;go_wp2;exact⟨⟨j+1,by have:=HJ.out;omega,by simp,HV.out.1.drew⟩,by have:=HJ.out;simp[intOf];omega⟩
  ·have hj8:j=8:=by omega
   subst hj8;have hnl:¬ ((8:Nat):Int)<8:=by omega
   have HB:=hid hb;clear hb;go_wp2;go_ret;exact⟨U,HP9.out.low.trans (HB.out.mono HP9.out.low.size)⟩
end Go.Proofs.YthghjlinhokimaaGreatDoor
