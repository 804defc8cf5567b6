/-
  Parts of a proof, joined.
-/
import Derived.Test.YthghjlinhokimaaGreatDoorZcA
import Derived.Test.YthghjlinhokimaaGreatDoorZc17
import Derived.Test.YthghjlinhokimaaGreatDoorZc19
set_option linter.all false
set_option maxRecDepth 100000
set_option maxHeartbeats 1600000
namespace Go.Proofs.YthghjlinhokimaaGreatDoor
open Go.ChangeShapes Go.WideShapes Go.ChangeAt Go.RowKit Go.Proofs.Tryz
section
variable {F : Fx} {W : World} {M M' : Mach} {tk : Tk}
theorem pR(M:Mach)(a:Int):0<=M.lookA a/\M.lookA a<=255:=by
 unfold Mach.lookA jq;split
 ·split
  ·exact sr _ _
  ·omega
 ·split
  ·exact sr _ _
  ·split
   ·split
    ·exact sr _ _
    ·omega
   ·omega
theorem zhb(a:Int)(f:0<=a/\a<=1):ik F M tk 143 a (M.lookA a):=by
 intro W h;have c:cu a=false:=by unfold cu;exact aF (by omega)
 have d:=hid (zjJ h a (by omega));have b:=hid c;have H:=hid h;clear h c;go_enter func132,ntmps132;go_wp2_with (first
  | (go_at_call 212;refine(mH a _ (by omega)).mono ?_;rw[b.out];rintro e w1 ⟨rfl,rfl⟩)
  | (go_at_call 214;refine d.out.mono ?_;rintro e w1 ⟨rfl,rfl⟩))
 go_ret;exact⟨U,H.out,Bt.refl _ _⟩
theorem zhc(a:Int)(f:0<=a/\a<=1):ik F M tk 77 a (M.lookM a):=by
 intro W h;have c:cu a=false:=by unfold cu;exact aF (by omega)
 have d:=hid (zfA h a (by omega));have b:=hid c;have H:=hid h;clear h c;go_enter func132,ntmps132;go_wp2_with (first
  | (go_at_call 212;refine(mH a _ (by omega)).mono ?_;rw[b.out];rintro e w1 ⟨rfl,rfl⟩)
  | (go_at_call 214;refine d.out.mono ?_;rintro e w1 ⟨rfl,rfl⟩))
 go_ret;exact⟨U,H.out,Bt.refl _ _⟩
theorem zjM(h:M.fit)(n:Int):(M.grant n).fit:={ h with main:=h.main }
theorem tK(x y:Int)(b:0<=x/\x<=255)(c:0<=y/\y<=255):(dO x y).ok:=by
 refine⟨U,λz a=>?_,?_,?_⟩
 ·have:z=0:=by
   simp only[dO,C.Cpu.zero,aV,bJ,dG] at a;omega
  omega
 ·show 0<=x*256+y;omega
 ·show x*256+y<=65535;omega
theorem zq8(h:Bd F W M tk)(n:Int)(c:0<=n/\n<=255)(a:(M.held && !(cH (n/2)))=false):Calls prog 194 #[pt F.g 0,.int .u8 n] W λe w'=>e=.returned (.tuple #[])/\Bd F w' (M.putM 16 n) tk/\Bt F W w':=by
 have c0:=h.at 67 (.bool M.granted) U;have c1:=h.at 68 (.bool M.held) U;have j:=h.bx.f;have k:=h.bx.z;have H:=hid h;have a1:=ze8 n c;have a2:=zih n c;have d:M.putM 16 n=M.grant n:=by show M.letGo n=_;unfold Mach.letGo;rw[G (by rw[a];decide)]
 rw[d];have hp:Bd F ((W.setCell ⟨F.g,67,none⟩ (.bool (cH n))).setCell ⟨F.g,68,none⟩ (.bool (cH (n/2)))) (M.grant n) tk :=
  (h.put (M':={ M with granted:=cH n }) (tk':=tk) 67 _ (by omega) U ⟨U,U,U,U,U⟩ { h.fit with main:=h.fit.main }).put 68 _ (by omega) U ⟨U,U,U,U,U⟩ (zjM h.fit n)
 have b:=hid hp;clear h d hp;generalize M.held=i at *;rcases sB n with⟨p,q⟩|⟨p,q⟩
 all_goals
  rw[p] at a1;rw[q] at b;rcases sB (n/2) with⟨r,s⟩|⟨r,s⟩
 all_goals
  rw[r] at a2;rw[s] at b a;clear p q r s;cases i
 all_goals first
  | (exfalso;revert a;decide)
  | (clear a
     go_enter func194,ntmps194;go_wp2;go_end0;exact⟨U,b.out,((Bt.refl _ _).set H.out.nd _ _).set H.out.nd _ _⟩)
end
section
variable {F : Fx} {W : World} {M M' : Mach} {tk : Tk}
theorem Bd.auxC(h:Bd F W M tk):W.cell? ⟨F.g,15,none⟩=some (.int .u16 (M.aux.r 0))/\W.cell? ⟨F.g,16,none⟩=some (.int .u16 (M.aux.r 1))/\W.cell? ⟨F.g,17,none⟩=some (.int .u16 (M.aux.r 2))/\W.cell? ⟨F.g,18,none⟩=some (.int .u16 (M.aux.r 3))/\W.cell? ⟨F.g,19,none⟩=some (.int .u16 (M.aux.r 4))/\W.cell? ⟨F.g,20,none⟩=some (.int .u16 (M.aux.r 5))/\W.cell? ⟨F.g,21,none⟩=some (.int .u16 (M.aux.r 6))/\W.cell? ⟨F.g,22,none⟩=some (.int .u16 (M.aux.r 7))/\W.cell? ⟨F.g,23,none⟩=some (.int .u16 M.aux.PC)/\W.cell? ⟨F.g,24,none⟩=some (.bool M.aux.Z)/\W.cell? ⟨F.g,25,none⟩=some (.bool M.aux.N)/\W.cell? ⟨F.g,26,none⟩=some (.bool M.aux.C)/\W.cell? ⟨F.g,27,none⟩=some (.bool M.aux.V)/\W.cell? ⟨F.g,28,none⟩=some (.bool M.aux.May)/\W.cell? ⟨F.g,29,none⟩=some (.bool M.aux.Waits)/\W.cell? ⟨F.g,72,none⟩=some (.int .i64 M.clock)/\W.cell? ⟨F.g,74,none⟩=some (.int .i64 M.aready)/\(∀ o,W.frozen? ⟨F.g,o,none⟩=false)/\F.g<W.heap.size :=
 ⟨h.at 15 _ rfl,h.at 16 _ rfl,h.at 17 _ rfl,h.at 18 _ rfl,h.at 19 _ rfl,h.at 20 _ rfl,h.at 21 _ rfl,h.at 22 _ rfl,h.at 23 _ rfl,h.at 24 _ rfl,h.at 25 _ rfl,h.at 26 _ rfl,h.at 27 _ rfl,h.at 28 _ rfl,h.at 29 _ rfl,h.at 72 _ rfl,h.at 74 _ rfl,h.bx.f,h.bx.z⟩
theorem zjO(h:Bd F W M tk)(o:Nat)(a x1:Int)(b:ik F M tk o 0 a)(h1:ik F M tk o 1 x1)(b0:0<=a/\a<=255)(b1:0<=x1/\x1<=255):Calls prog 68 #[iX F.g o] W λe w'=>e=.returned (.agg #[.int .u16 0,.int .u16 0,.int .u16 0,.int .u16 0,.int .u16 0,.int .u16 0,.int .u16 0,.int .u16 0,.int .u16 (a*256+x1),.bool false,.bool false,.bool false,.bool false,.bool false,.bool false])/\Bd F w' M tk/\Bt F W w':=zeT h o a x1 b h1 b0 b1
theorem zjP{b i:Nat}{v:Value}:∀(vs:List Value) (o:Nat) (w:World),o+vs.length<=i->w.cell? ⟨b,i,none⟩=some v->(w.setCells b o vs).cell? ⟨b,i,none⟩=some v
 | [],o,w,a,h=>h
 | x::vs,o,w,a,h=>by
  simp only[bR] at a;exact zjP vs (o+1) _ (by omega) ((az _ _ _ _ (by intro e;have:=congrArg Addr.off e;simp at this;omega)).trans h)
theorem zv9{w:World}{b i j:Nat}{v u:Value}(a:i≠j)(h:w.cell? ⟨b,j,none⟩=some u):(w.setCell ⟨b,i,none⟩ v).drew.cell? ⟨b,j,none⟩=some u :=
 (az _ _ _ _ (by intro e;exact a (congrArg Addr.off e))).trans h
theorem ph(w:World)(b:Nat)(v0 g v2 v3 v4 v5 h i j v9 a c d e f:Value):w.setCells b 15 [v0,g,v2,v3,v4,v5,h,i,j,v9,a,c,d,e,f]=(((((((((((((((w.setCell ⟨b,15,none⟩ v0).setCell ⟨b,16,none⟩ g).setCell ⟨b,17,none⟩ v2).setCell ⟨b,18,none⟩ v3).setCell ⟨b,19,none⟩ v4).setCell ⟨b,20,none⟩ v5).setCell ⟨b,21,none⟩ h).setCell ⟨b,22,none⟩ i).setCell ⟨b,23,none⟩ j).setCell ⟨b,24,none⟩ v9).setCell ⟨b,25,none⟩ a).setCell ⟨b,26,none⟩ c).setCell ⟨b,27,none⟩ d).setCell ⟨b,28,none⟩ e).setCell ⟨b,29,none⟩ f):=by simp only[World.setCells,Nat.reduceAdd]
theorem nj{w:World}{b:Nat}{u v0 g v2 v3 v4 v5 i j k v9 a c d e f:Value}(h:w.cell? ⟨b,72,none⟩=some u):(((((((((((((((w.setCell ⟨b,15,none⟩ v0).setCell ⟨b,16,none⟩ g).setCell ⟨b,17,none⟩ v2).setCell ⟨b,18,none⟩ v3).setCell ⟨b,19,none⟩ v4).setCell ⟨b,20,none⟩ v5).setCell ⟨b,21,none⟩ i).setCell ⟨b,22,none⟩ j).setCell ⟨b,23,none⟩ k).setCell ⟨b,24,none⟩ v9).setCell ⟨b,25,none⟩ a).setCell ⟨b,26,none⟩ c).setCell ⟨b,27,none⟩ d).setCell ⟨b,28,none⟩ e).setCell ⟨b,29,none⟩ f).cell? ⟨b,72,none⟩=some u:=by
 rw[<- ph];exact zjP _ 15 w (by simp) h
theorem p6{w:World}{b:Nat}{u x v0 g v2 v3 v4 v5 i j k v9 a c d e f:Value}(h:w.cell? ⟨b,72,none⟩=some u):((((((((((((((((w.setCell ⟨b,15,none⟩ v0).setCell ⟨b,16,none⟩ g).setCell ⟨b,17,none⟩ v2).setCell ⟨b,18,none⟩ v3).setCell ⟨b,19,none⟩ v4).setCell ⟨b,20,none⟩ v5).setCell ⟨b,21,none⟩ i).setCell ⟨b,22,none⟩ j).setCell ⟨b,23,none⟩ k).setCell ⟨b,24,none⟩ v9).setCell ⟨b,25,none⟩ a).setCell ⟨b,26,none⟩ c).setCell ⟨b,27,none⟩ d).setCell ⟨b,28,none⟩ e).setCell ⟨b,29,none⟩ f).setCell ⟨b,74,none⟩ x).drew.cell? ⟨b,72,none⟩=some u:=zv9 (by omega) (nj h)
theorem p7{w:World}{b:Nat}{u x v0 i v2 v3 v4 v5 j k l v9 a c d f g:Value}(h:w.cell? ⟨b,72,none⟩=some u):((((((((((((((((w.setCell ⟨b,15,none⟩ v0).setCell ⟨b,16,none⟩ i).setCell ⟨b,17,none⟩ v2).setCell ⟨b,18,none⟩ v3).setCell ⟨b,19,none⟩ v4).setCell ⟨b,20,none⟩ v5).setCell ⟨b,21,none⟩ j).setCell ⟨b,22,none⟩ k).setCell ⟨b,23,none⟩ l).setCell ⟨b,24,none⟩ v9).setCell ⟨b,25,none⟩ a).setCell ⟨b,26,none⟩ c).setCell ⟨b,27,none⟩ d).setCell ⟨b,28,none⟩ f).setCell ⟨b,29,none⟩ g).setCell ⟨b,74,none⟩ x).cell? ⟨b,72,none⟩=some u:=(az _ _ _ _ (by intro e;have:=congrArg Addr.off e;simp at this)).trans (nj h)
theorem zq9(h:Bd F W M tk)(n:Int)(I:0<=n/\n<=255)(s:(M.held && !(cH (n/2)))=true):Calls prog 194 #[pt F.g 0,.int .u8 n] W λe w'=>e=.returned (.tuple #[])/\Bd F w' (M.putM 16 n) tk/\Bt F W w':=by
 have c0:=h.at 67 (.bool M.granted) U;have c1:=h.at 68 (.bool M.held) U;have R:=h.bx.f;have T:=h.bx.z;have H:=hid h;have a1:=ze8 n I;have a2:=zih n I;have L:M.putM 16 n={ M.grant n with aux:=dO ((M.grant n).lookA 0) ((M.grant n).lookA 1),aready:=M.clock }:=by show M.letGo n=_;unfold Mach.letGo;rw[Q s]
 rw[L];have hp:Bd F ((W.setCell ⟨F.g,67,none⟩ (.bool (cH n))).setCell ⟨F.g,68,none⟩ (.bool (cH (n/2)))) (M.grant n) tk :=
  (h.put (M':={ M with granted:=cH n }) (tk':=tk) 67 _ (by omega) U ⟨U,U,U,U,U⟩ { h.fit with main:=h.fit.main }).put 68 _ (by omega) U ⟨U,U,U,U,U⟩ (zjM h.fit n)
 have v:=hid hp;have j:(M.grant n).clock=M.clock:=U;rw[<- j];have HF:=hid h.fit;clear h L hp j;generalize N:M.grant n=ag at *;have HG:=hid N;clear N;have P:M.held=true:=by revert s;cases M.held <;> simp
 have w:cH (n/2)=false:=by revert s;cases M.held <;> cases cH (n/2) <;> simp
 rw[P] at c1;have r:n/2%2=0:=by rcases sB (n/2) with⟨p,q⟩|⟨p,q⟩;exact p;rw[w] at q;cases q
 rw[r] at a2;rw[w] at v;clear s P w r;rcases sB n with⟨p,q⟩|⟨p,q⟩
 all_goals
  rw[p] at a1;rw[q] at v;clear p q;go_enter func194,ntmps194;go_wp2;refine Pl.cutW (λY=>Bd F Y ag tk/\Bt F W Y) ⟨v.out,((Bt.refl _ _).set H.out.nd _ _).set H.out.nd _ _⟩ ?_;rintro Y ⟨c,k⟩;have l:=hid c;have x:=hid k;obtain⟨_,_,_,_,_,_,_,_,_,_,_,_,_,_,_,V,ar,yf,yg⟩:=c.auxC;clear c k R c0 c1 T;go_region_held3 (λw'=>w'.cell? ⟨F.g,72,none⟩=some (.int .i64 ag.clock))
   ((first|(with_reducible exact b)|(with_reducible exact y)|(with_reducible exact V)|(with_reducible exact nj b)|(with_reducible exact p6 b)|(with_reducible exact p7 b)|(go_keep;done)))
   ((first
   | (go_at_call 68;refine(zjO d.out 143 _ _ (zhb 0 (by omega)) (zhb 1 (by omega)) (pR _ _) (pR _ _)).mono ?_;rintro e w2 ⟨rfl,i,m⟩;have a:=hid i;have B:=hid m;obtain⟨z0,z1,z2,z3,z4,z5,z6,z7,z8,z9,X,Z,z12,z13,z14,b,zar,zf,zg⟩:=i.auxC;clear i m)
   | (go_at_call 114;refine(zha F.g _).mono ?_;rintro e w1 ⟨rfl,o⟩;have d:=hid (l.out.drew.kept o);have y:=d.out.at 72 _ U;have yg1:=d.out.bx.z)))
  all_goals go_wp2
  all_goals go_end0
  all_goals
   have t:Mach.fit { ag with aux:=dO (ag.lookA 0) (ag.lookA 1) }:=Mach.fit.of a.out.fit { a.out.fit with aux:=tK _ _ (pR _ _) (pR _ _) } ⟨U,U,U,U,U⟩ U ⟨U,U,U⟩ ⟨U,U⟩ (Or.inl U);have E:Mach.fit { ag with aux:=dO (ag.lookA 0) (ag.lookA 1),aready:=ag.clock }:=Mach.fit.of t { t with main:=t.main } ⟨U,U,U,U,U⟩ U ⟨U,U,U⟩ ⟨U,U⟩ (Or.inr U);have hp:=(a.out.puts (M':={ ag with aux:=dO (ag.lookA 0) (ag.lookA 1) }) (tk':=tk) 15 (bG (dO (ag.lookA 0) (ag.lookA 1))) (by simp[bG]) (F.putAux ag tk _) ⟨U,U,U,U,U⟩ t).put (M':={ ag with aux:=dO (ag.lookA 0) (ag.lookA 1),aready:=ag.clock }) (tk':=tk) 74 (.int .i64 ag.clock) (by omega) U ⟨U,U,U,U,U⟩ E;have u:=Bt.set a.out.nd (Bt.sets a.out.nd (bG (dO (ag.lookA 0) (ag.lookA 1))) 15 _ (Mv.trans x.out (Mv.trans (Bt.below l.out (bn (J Y).drew o)) B.out))) 74 (.int .i64 ag.clock);rw[<- zlN] at hp u;unfold gD at hp u;rw[ph] at hp u;exact⟨U,hp,u⟩
theorem ztw(h:Bd F W M tk)(n:Int)(a:0<=n/\n<=255):Calls prog 194 #[pt F.g 0,.int .u8 n] W λe w'=>e=.returned (.tuple #[])/\Bd F w' (M.putM 16 n) tk/\Bt F W w':=by
 cases b:(M.held && !(cH (n/2)))
 ·exact zq8 h n a b
 ·exact zq9 h n a b
end
section
variable {F : Fx} {W : World} {M M' : Mach} {tk tk' : Tk}
theorem rM(n:Nat)(a b:Array Value)(w:World):(binOp .neq 135 (.func (.func n) a b) .nilFunc).run prog w=.ok (.bool true) w:=by kernel_rfl
theorem wL(w:World):(binOp .neq 135 .nilFunc .nilFunc).run prog w=.ok (.bool false) w:=by kernel_rfl
theorem lM(a:Value)(n:Int)(h:Bd F W M tk):Calls prog 215 #[.agg #[a,.nilFunc],.int .u8 n] W λe w'=>e=.returned (.tuple #[])/\Bd F w' M tk/\Bt F W w':=by
 have b:=wL;have H:=hid h;clear h;go_enter func215,ntmps215;go_wp2;go_end0;exact⟨U,H.out.over _,Mv.of_below H.out.big (stA (J _) _)⟩
theorem sD(g:Nat)(a:∀(x:Array Value) (w:World),(callFunc g x).run prog w=.ok (.enter g x) w)(b:Value)(n:Int)(h:Bd F W M tk)(hc:∀ W,Bd F W M tk->Calls prog g #[pt F.g 0,.int .u8 n] W λe w'=>e=.returned (.tuple #[])/\Bd F w' M' tk'/\Bt F W w'):Calls prog 215 #[.agg #[b,dX g F.g 0],.int .u8 n] W λe w'=>e=.returned (.tuple #[])/\Bd F w' M' tk'/\Bt F W w':=by
 have f:∀ w:World,(binOp .neq 135 (dX g F.g 0) .nilFunc).run prog w=.ok (.bool true) w:=λw=>rM _ _ _ w
 have H:=hid h;have c:=hid hc;clear h hc;go_enter func215,ntmps215;go_wp2_with (refine(c.out _ (H.out.over _)).mono ?_;rintro e w1 ⟨rfl,hB,d⟩)
 go_end0;exact⟨U,hB,Mv.trans (Mv.of_below H.out.big (stA (J _) _)) d⟩
theorem rn(g:Nat)(a:∀(x:Array Value) (w:World),(callFunc g x).run prog w=.ok (.enter g x) w)(b:Value)(n:Int)(q:Nat)(h:Bd F W M tk)(hc:∀ W,Bd F W M tk->Calls prog g #[.int .u8 n,pt q 0] W λe w'=>e=.returned (.tuple #[])/\Bd F w' M' tk'/\Bt F W w'):Calls prog 215 #[.agg #[b,cZ g #[pt q 0]],.int .u8 n] W λe w'=>e=.returned (.tuple #[])/\Bd F w' M' tk'/\Bt F W w':=by
 have f:∀ w:World,(binOp .neq 135 (cZ g #[pt q 0]) .nilFunc).run prog w=.ok (.bool true) w:=λw=>rM _ _ _ w
 have H:=hid h;have c:=hid hc;clear h hc;go_enter func215,ntmps215;go_wp2_with (refine(c.out _ (H.out.over _)).mono ?_;rintro e w1 ⟨rfl,hB,d⟩)
 go_end0;exact⟨U,hB,Mv.trans (Mv.of_below H.out.big (stA (J _) _)) d⟩
theorem zrc(a:Value)(n:Int)(q v:Nat){l:List Wt}(h:Bd F W M tk)(hc:∀ W,Bd F W M tk->Calls prog 246 #[.int .u8 n,pt q 0,pt v 0] W λe w'=>e=.returned (.tuple #[])/\oQ F W w' M' tk l):Calls prog 215 #[.agg #[a,cZ 246 #[pt q 0,pt v 0]],.int .u8 n] W λe w'=>e=.returned (.tuple #[])/\oQ F W w' M' tk l:=by
 have c:∀ w:World,(binOp .neq 135 (cZ 246 #[pt q 0,pt v 0]) .nilFunc).run prog w=.ok (.bool true) w:=λw=>rM _ _ _ w
 have H:=hid h;have b:=hid hc;clear h hc;go_enter func215,ntmps215;go_wp2_with (go_at_call 246;refine(b.out _ (H.out.over _)).mono ?_;rintro e w1 ⟨rfl,hB⟩)
 go_end0;exact⟨U,hB.1,(Bw.of_below H.out.big (stA (J _) _)).trans hB.2⟩
theorem sE{k:Nat}{n:Int}(h:M.fit)(a:0<=n/\n<=255)(b:k=2 \/ k=3 \/ k=10 \/ k=11 \/ k=12 \/ k=13):(M.putM k n).fit:=by
 rcases b with rfl|rfl|rfl|rfl|rfl|rfl
 ·exact(show Mach.fit { M with t:={ M.t with r:=nR M.t.r n } } from { h with tr:=sw h.tr a,tc:=h.tc,main:=h.main })
 ·exact(show Mach.fit { M with t:={ M.t with r:=ot M.t.r n } } from { h with tr:=sy h.tr a,tc:=h.tc,main:=h.main })
 ·exact(show Mach.fit { M with fr:=nR M.fr n } from { h with fr:=sw h.fr a,main:=h.main })
 ·exact(show Mach.fit { M with fr:=ot M.fr n } from { h with fr:=sy h.fr a,main:=h.main })
 ·exact Mach.fit.of h ⟨h.main,h.aux,h.p0,h.p1,h.tr,h.tc,h.s,h.fr,sw h.to a,h.m0,h.m1⟩ ⟨U,U,U,U,U⟩ U ⟨U,U,U⟩ ⟨U,U⟩ (Or.inl U)
 ·exact Mach.fit.of h ⟨h.main,h.aux,h.p0,h.p1,h.tr,h.tc,h.s,h.fr,sy h.to a,h.m0,h.m1⟩ ⟨U,U,U,U,U⟩ U ⟨U,U,U⟩ ⟨U,U⟩ (Or.inl U)
theorem ztM(i:Nat)(n:Int)(h:i≠14):tk.add (kU i n)=tk:=by unfold kU;rw[G h,Tk.add_zero]
theorem ztN(n:Int)(a:0<=n/\n<=255)(c:0<=tk.n/\tk.n<=1000000000000)(i:Nat)(hi:i<32):vG F M tk i n:=by
 intro W h;by_cases b:i=14
 ·subst b
  rw[show tk.add (kU 14 n)=tk.add (2*n) from U];exact sD _ (λ_ _=>U) _ _ h (λW h=>zq5 h n a c)
 rw[ztM i n b];have hc:i=0 \/ i=1 \/ i=2 \/ i=3 \/ i=4 \/ i=5 \/ i=6 \/ i=7 \/ i=8 \/ i=9 \/ i=10 \/ i=11 \/ i=12 \/ i=13 \/ i=15 \/ i=16 \/ i=17 \/ i=18 \/ i=19 \/ i=20 \/ i=21 \/ i=22 \/ i=23 \/ i=24 \/ i=25 \/ i=26 \/ i=27 \/ i=28 \/ i=29 \/ i=30 \/ i=31:=by omega
 clear b hi;rcases hc with rfl|rfl|rfl|rfl|rfl|rfl|rfl|rfl|rfl|rfl|rfl|rfl|rfl|rfl|rfl|rfl|rfl|rfl|rfl|rfl|rfl|rfl|rfl|rfl|rfl|rfl|rfl|rfl|rfl|rfl|rfl
 ·exact sD _ (λ_ _=>U) _ _ h (λW h=>zrb h n a)
 ·exact lM _ _ h
 ·exact rn _ (λ_ _=>U) _ _ _ h (λW h=>zfB h _ 41 M.t.r n .h2 U h.fit.tr a (by omega) U ⟨U,U,U,U,U⟩ (sE h.fit a (by omega)))
 ·exact rn _ (λ_ _=>U) _ _ _ h (λW h=>zie h _ 41 M.t.r n .h3 U h.fit.tr a (by omega) U ⟨U,U,U,U,U⟩ (sE h.fit a (by omega)))
 ·exact sD _ (λ_ _=>U) _ _ h (λW h=>zoG h n a)
 ·exact lM _ _ h
 ·exact lM _ _ h
 ·exact lM _ _ h
 ·exact sD _ (λ_ _=>U) _ _ h (λW h=>zqX h n)
 ·exact lM _ _ h
 ·exact rn _ (λ_ _=>U) _ _ _ h (λW h=>zfB h _ 65 M.fr n .h10 U h.fit.fr a (by omega) U ⟨U,U,U,U,U⟩ (sE h.fit a (by omega)))
 ·exact rn _ (λ_ _=>U) _ _ _ h (λW h=>zie h _ 65 M.fr n .h11 U h.fit.fr a (by omega) U ⟨U,U,U,U,U⟩ (sE h.fit a (by omega)))
 ·exact rn _ (λ_ _=>U) _ _ _ h (λW h=>zfB h _ 66 M.to n .h12 U h.fit.to a (by omega) U ⟨U,U,U,U,U⟩ (sE h.fit a (by omega)))
 ·exact rn _ (λ_ _=>U) _ _ _ h (λW h=>zie h _ 66 M.to n .h13 U h.fit.to a (by omega) U ⟨U,U,U,U,U⟩ (sE h.fit a (by omega)))
 ·exact lM _ _ h
 ·exact sD _ (λ_ _=>U) _ _ h (λW h=>ztw h n a)
 ·exact sD _ (λ_ _=>U) _ _ h (λW h=>zqY h n a)
 ·exact lM _ _ h
 ·exact lM _ _ h
 ·exact lM _ _ h
 ·exact lM _ _ h
 ·exact lM _ _ h
 ·exact lM _ _ h
 ·exact lM _ _ h
 ·exact lM _ _ h
 ·exact lM _ _ h
 ·exact lM _ _ h
 ·exact lM _ _ h
 ·exact lM _ _ h
 ·exact lM _ _ h
 ·exact lM _ _ h
theorem vI{e:Ending}{w':World}(h:e=.returned (.tuple #[])/\Bd F w' M' tk/\Bt F W w'){l:List Wt}(a:l=[]):e=.returned (.tuple #[])/\(∃ v,Bd F w' M' (tk.app l v))/\Bw F W w':=⟨h.1,oe h.2.1 a h.2.2⟩
theorem ztO(n:Int)(b:0<=n/\n<=255)(c:tk.l.length<=1000000000)(i:Nat)(hi:i<32):vH F M tk i n:=by
 intro W h;unfold Fx.wrA Mach.putA shown;by_cases e:i<24
 ·rw[Q e,Q e,Q e]
  exact zrc _ _ _ _ h (λW h=>zoM h i e n b c)
 ·rw[G e,G e,G e]
  by_cases e2:i=24
  ·rw[Q e2,Q e2]
   exact(rn _ (λ_ _=>U) _ _ _ h (λW h=>zqZ h n b)).mono (λ_ _ a=>vI a U)
  ·rw[G e2,G e2]
   exact(lM _ _ h).mono (λ_ _ a=>vI a U)
end
section
variable {F : Gx} {W : World} {M : Mach} {tk : Tk} {gb mb : Nat}
theorem Gm.getA0(h:Gd F W M tk)(c:Pb F W mb)(a:Int)(h1:0<=a)(h2:a<32768):Calls prog 148 #[.int .u16 a,pt mb 0] W λe w'=>e=.returned (.int .u8 (M.lookA a))/\W=w':=by
 obtain⟨g,e1,_⟩:=c;have d:=h.at 31 F.S.ar U;have f:=hid h.ar;have i:=h.bx.z;have b:M.lookA a=jq M.arom a:=by unfold Mach.lookA;rw[Q h2]
 rw[b];clear h b;go_enter func148,ntmps148;go_wp2_with (first
  | (go_at_call 88;refine(Gm.reg0 a _ h1 h2).mono ?_;rintro e w1 ⟨rfl,rfl⟩)
  | (go_at_call 149;refine(zhi _ _ a _ f.out h1 (by omega)).mono ?_;rintro e w1 ⟨rfl,rfl⟩))
 go_ret;exact⟨U,U⟩
theorem Gm.getA1(h:Gd F W M tk)(d:Pb F W mb)(a:Int)(h1:32768<=a)(h2:a<49152):Calls prog 148 #[.int .u16 a,pt mb 0] W λe w'=>e=.returned (.int .u8 (M.lookA a))/\W=w':=by
 obtain⟨j,e1,_⟩:=d;obtain⟨b,e,_,_⟩:=h.ownV;have f:W.cell? ⟨F.g,33,none⟩=some (.slice (some ⟨F.ow,0,none⟩) 64 b):=(h.at 33 F.S.ow U).trans (by rw[e]);obtain⟨k,l,m⟩:=h.ownAt ((a-32768)%64) (by omega) (by omega);have i:Int.tmod (a-32768) 64=(a-32768)%64:=aq (by omega);have n:=h.bx.z;have c:M.lookA a=jd M.own ((a-32768)%64):=by unfold Mach.lookA;rw[G (by omega),Q h2]
 rw[c];clear h e c;go_enter func148,ntmps148;go_wp2_with (go_at_call 88;refine(Gm.reg1 a _ h1 h2).mono ?_;rintro e w1 ⟨rfl,rfl⟩)
 go_ret;exact⟨U,U⟩
theorem Gm.getA2(h:Gd F W M tk)(i:Pb F W mb)(a:Int)(h1:49152<=a)(h2:a<53248):Calls prog 148 #[.int .u16 a,pt mb 0] W λe w'=>e=.returned (.int .u8 (M.lookA a))/\W=w':=by
 obtain⟨l,e1,_⟩:=i;obtain⟨d,e,_,_⟩:=h.ramV;have j:W.cell? ⟨F.g,32,none⟩=some (.slice (some ⟨F.ra,0,none⟩) 128 d):=(h.at 32 F.S.ra U).trans (by rw[e]);obtain⟨m,n,o⟩:=h.ramAt ((a-49152)%128) (by omega) (by omega);have k:Int.tmod a 128=(a-49152)%128:=by rw[aq (by omega)];omega
 have p:=h.bx.z;have b:=h.at 67 (.bool M.granted) U;have f:M.lookA a=if M.granted then jd M.ram ((a-49152)%128) else 255:=by unfold Mach.lookA;rw[G (by omega),G (by omega),Q h2]
 rw[f];clear h e f;cases c:M.granted
 ·rw[c] at b
  simp only[bK,dt];go_enter func148,ntmps148;go_wp2_with (go_at_call 88;refine(Gm.reg2 a _ h1 h2).mono ?_;rintro e w1 ⟨rfl,rfl⟩)
  go_ret;exact⟨U,U⟩
 ·rw[c] at b
  simp only[dL];go_enter func148,ntmps148;go_wp2_with (go_at_call 88;refine(Gm.reg2 a _ h1 h2).mono ?_;rintro e w1 ⟨rfl,rfl⟩)
  go_ret;exact⟨U,U⟩
theorem Gm.getA4(a:Int)(h1:57344<=a)(h2:a<=65535):Calls prog 148 #[.int .u16 a,pt mb 0] W λe w'=>e=.returned (.int .u8 (M.lookA a))/\W=w':=by
 have b:M.lookA a=255:=by unfold Mach.lookA;rw[G (by omega),G (by omega),G (by omega)]
 rw[b];go_enter func148,ntmps148;go_wp2_with (go_at_call 88;refine(Gm.reg4 a _ h1 h2).mono ?_;rintro e w1 ⟨rfl,rfl⟩)
 go_ret;exact⟨U,U⟩
theorem Gm.getA24(h:Gd F W M tk)(c:Pb F W mb)(a:Int)(h1:53248<=a)(h2:a<=57343)(i:Int.tmod a 32=24):Calls prog 148 #[.int .u16 a,pt mb 0] W λe w'=>e=.returned (.int .u8 M.m0)/\Gd F w' { M with rung:=false } tk/\Gt F W w':=by
 have b:=c.2.2;obtain⟨j,e1,_⟩:=c;have d:mb≠F.g:=λe=>b (Or.inl e)
 have c1:=h.at 69 (.int .u8 M.m0) U;have c2:=h.at 71 (.bool M.rung) U;have c3:=h.bx.f 71;have k:=h.bx.z;have H:=hid h;clear h;go_enter func148,ntmps148;go_wp2_with (go_at_call 88;refine(Gm.reg3 a _ h1 h2).mono ?_;rintro e w1 ⟨rfl,rfl⟩)
 go_ret;exact⟨U,H.out.put 71 _ (by omega) U ⟨U,U,U,U,U⟩ { H.out.fit with main:=H.out.fit.main },Gt.set H.out.nd (Gt.refl _ _) _ _⟩
theorem Gm.getAp(a:Int)(h1:53248<=a)(h2:a<=57343)(k:Int)(c:Int.tmod a 32=k)(d:0<=k)(f:k<=31)(b:(k == 24)=false):Calls prog 148 #[.int .u16 a,pt mb 0] W λe w'=>e=.returned (.int .u8 255)/\W=w':=by
 go_enter func148,ntmps148;go_wp2_with (go_at_call 88;refine(Gm.reg3 a _ h1 h2).mono ?_;rintro e w1 ⟨rfl,rfl⟩)
 go_ret;exact⟨U,U⟩
theorem mU{e:Ending}{w':World}{x:Value}(h:Gd F W M tk)(a:e=.returned x/\W=w'):e=.returned x/\Gd F w' M tk/\Gt F W w':=by
 obtain⟨h1,rfl⟩:=a;exact⟨h1,h,Gt.refl _ _⟩
theorem Gm.getA(h:Gd F W M tk)(d:Pb F W mb)(a:Int)(f:0<=a/\a<=65535):Calls prog 148 #[.int .u16 a,pt mb 0] W λe w'=>e=.returned (.int .u8 (M.rdA a).1)/\Gd F w' (M.rdA a).2 tk/\Gt F W w':=by
 unfold Mach.rdA;by_cases hp:cu a=true
 ·rw[Q hp]
  have c:53248<=a/\a<=57343:=by unfold cu at hp;simpa using hp
  have g:Int.tmod a 32=a%32:=aq (by omega);unfold Mach.portA;have i:(portNo a=24) ↔ a%32=24:=by unfold portNo;omega
  by_cases e:portNo a=24
  ·rw[Q e]
   exact Gm.getA24 h d a c.1 c.2 (by omega)
  ·rw[G e]
   exact(Gm.getAp a c.1 c.2 (a%32) g (by omega) (by omega) (by simp;omega)).mono (λ_ _ b=>mU h b)
 ·rw[G hp]
  have c:¬ (53248<=a/\a<=57343):=by unfold cu at hp;simpa using hp
  by_cases h1:a<32768
  ·exact(Gm.getA0 h d a f.1 h1).mono (λ_ _ b=>mU h b)
  by_cases h2:a<49152
  ·exact(Gm.getA1 h d a (by omega) h2).mono (λ_ _ b=>mU h b)
  by_cases h3:a<53248
  ·exact(Gm.getA2 h d a (by omega) h3).mono (λ_ _ b=>mU h b)
  exact(Gm.getA4 (M:=M) a (by omega) f.2).mono (λ_ _ b=>mU h b)
abbrev memA(mb gb:Nat):Value:=.agg #[cZ 148 #[pt mb 0],cZ 150 #[pt mb 0,pt gb 0]]
abbrev memM(mb hb lb gb:Nat):Value:=.agg #[cZ 87 #[pt gb 0,pt mb 0],cZ 94 #[pt mb 0,pt hb 0,pt lb 0,pt gb 0]]
theorem Gm.wordA(h:Gd F W M tk)(a:Pb F W mb):Calls prog 86 #[memA mb gb,.int .u16 0] W λe w'=>e=.returned (.int .u16 (M.lookA 0*256+M.lookA 1))/\Below W.heap.size W w':=by
 have c:=pR M 0;have h1:=pR M 1;have q0:=hid (λo:Obj=>Gm.getA0 (h.over o) (a.kept (stA (J W) o)) 0 (by omega) (by omega));have q1:=hid (λo:Obj=>Gm.getA0 (h.over o) (a.kept (stA (J W) o)) 1 (by omega) (by omega));generalize M.lookA 0=d at *;generalize M.lookA 1=x1 at *;clear h a;go_enter func86,ntmps86;go_wp2_with (first
  | (go_at_call 148;refine(b.out _).mono ?_;rintro e w2 ⟨rfl,rfl⟩)
  | (go_at_call 148;refine(q0.out _).mono ?_;rintro e w1 ⟨rfl,rfl⟩;have b:=q1))
 go_ret;exact⟨U,stA (J W) _⟩
end
structure AuxV (g n : Nat) (w : World) : Prop where
 z:n+2<w.heap.size
 a:w.cell? ⟨n,0,none⟩=some (pt g 0)
 b:w.cell? ⟨n+2,0,none⟩=some (pt g 0)
theorem zo0(g:Nat)(w:World):Calls prog 74 #[pt g 0] w λe w'=>e=.returned (memA (w.heap.size+2) w.heap.size)/\Below w.heap.size w w'/\AuxV g w.heap.size w':=by
 go_enter func74,ntmps74;go_wp2;refine ao (v:=.agg _) (by simp[results,results74,go_sem]) U ⟨U,?_,?_⟩
 ·repeat (first|exact J _|refine stA ?_ _|refine eQ ?_ (by simp) _)
 ·exact⟨by simp,by simp[go_sem],by simp[go_sem]⟩
section
variable {F : Gx} {W : World} {M : Mach} {tk : Tk} {gb mb : Nat}
theorem Gd.fresh(h:Gd F W M tk){n:Nat}(b:W.heap.size<=n):¬ F.T n:=λa=>by
 have h1:=h.bx.z;obtain⟨_,_,_,h2⟩:=h.ramV;obtain⟨_,_,_,h3⟩:=h.ownV;obtain⟨_,_,_,h4⟩:=h.viV;have h2:=h2.z;have h3:=h3.z;have h4:=h4.z;rcases a with e|e|e|e <;> omega
theorem AuxV.pb{w1:World}(h:Gd F W M tk)(c:AuxV F.g W.heap.size w1):Pb F w1 W.heap.size/\Pb F w1 (W.heap.size+2) :=
 ⟨⟨by have:=c.z;omega,c.a,h.fresh (ak _)⟩,⟨c.z,c.b,h.fresh (by omega)⟩⟩
theorem zo1(h:Gd F W M tk)(j:Pb F W mb):Calls prog 48 #[memA mb gb] W λe w'=>e=.returned (.agg (gD (M.lookA 0*256+M.lookA 1)).toArray)/\Below W.heap.size W w':=by
 have l:=hid (λ(o o':Obj)=>Gm.wordA (gb:=gb) ((h.over o).over o') (j.kept (stA (stA (J W) o) o')));generalize M.lookA 0*256+M.lookA 1=x at *;clear h j;go_enter func48,ntmps48;go_wp2_with (first
  | (go_at_call 86;refine(l.out _ _).mono ?_;rintro e w1 ⟨rfl,a⟩;have k:=hid ((Bx.new (W.alloc _) (gD 0) 25 (b:=W.heap.size+1) (by simp)).kept a);have f:=hid (bn (stA (stA (J W) _) _) a);clear a)
  | (refine wpList_store_mid U 25 _ _ U (W.heap.size+1) 0 _ U U (Bx.there k.out 0 15 (by simp[gD])) nU (sC _) ?_
     refine Pl.cutL (λY=>Below W.heap.size W Y/\Bx Y (W.heap.size+1) (gD x)) ⟨Bl.puts f.out (by omega) _,k.out.puts 0 (gD x) (by simp[gD])⟩ ?_;rintro Y ⟨c,d⟩;have g:=hid c;have i:=hid d;clear c d))
 exact ao (v:=.agg _) (by simp only[results,results48];simp;exact Pl.res (zii i.out)) U ⟨U,g.out⟩
end
end Go.Proofs.YthghjlinhokimaaGreatDoor
