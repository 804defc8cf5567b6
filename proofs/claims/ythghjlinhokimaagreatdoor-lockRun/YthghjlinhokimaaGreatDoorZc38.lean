/-
  Parts of a proof, joined.
-/
import Derived.Test.YthghjlinhokimaaGreatDoorZcA
import Derived.Test.YthghjlinhokimaaGreatDoorZc34
set_option linter.all false
set_option maxRecDepth 100000
set_option maxHeartbeats 3200000
namespace Go.Proofs.YthghjlinhokimaaGreatDoor
open Go.ChangeShapes Go.WideShapes Go.ChangeAt Go.RowKit Go.Proofs.Tryz
section
variable {q : Qe} {w : World} {x : C.St Bst} {d e1 : Nat} {n v : Int}
theorem zya(R:QS q)(z:d<8)(T:e1<8)(t:-16<=n/\n<=15)(a:0<=n):lH q w 12 ⟨#[115,104,108]⟩ d e1 n v x (C.act q.m ⟨x.c,x.s,K.cyc 12⟩ 12 d e1 n v):=by
 intro bo kb aj f W l u;obtain⟨V,o1,o2,X,Y,B,Z,k2,zo,zk,zp⟩:=l.kcells;have b:K.name 12=⟨#[115,104,108]⟩:=by kernel_rfl
 rw[b] at B;clear b;have y:=hid R;have E:=hid u;have F:=hid l;obtain⟨g,h⟩:=C.Cpu.r_bd l.ok d;obtain⟨i,j⟩:=M.shlN_bd (x.c.r d) n;clear l u R;conv=>arg 2;whnf
 go_wp2_with (first
  | (go_at_call 146;refine(znD _ _ _ g h a t.2).mono ?_;rintro e w5 ⟨rfl,rfl⟩)
  | (go_at_call 147;refine(zvc _ _ _ g h a t.2).mono ?_;rintro e H ⟨rfl,rfl⟩)
  | (go_at_call 144;refine(zeB y.out (M.shlN (x.c.r d) n) i j (M.shlC (x.c.r d) n) false F.out).mono ?_;rintro e H ⟨rfl,k⟩;have KM:=hid k;obtain⟨_,o,_,_,_,I,_,_,L,N,_⟩:=KM.out.kcells;clear k)
  | (go_at_call 143;refine(qr y.out (M.shlN (x.c.r d) n) i j d z bo KM.out o).mono ?_;rintro e w7 ⟨rfl,p⟩;have P:=hid p))
 exact E.out _ _ _ ⟨U,U,U,U,U⟩ (P.out.cyc _)
theorem zyb(R:QS q)(z:d<8)(T:e1<8)(t:-16<=n/\n<=15)(g:0<=n):lH q w 13 ⟨#[115,104,114]⟩ d e1 n v x (C.act q.m ⟨x.c,x.s,K.cyc 13⟩ 13 d e1 n v):=by
 intro bo kb aj f W l u;obtain⟨V,o1,o2,X,Y,B,Z,k2,zo,zk,zp⟩:=l.kcells;have h:K.name 13=⟨#[115,104,114]⟩:=by kernel_rfl
 rw[h] at B;clear h;have y:=hid R;have E:=hid u;have F:=hid l;obtain⟨a,b⟩:=C.Cpu.r_bd l.ok d;have i:0<=M.shrN (x.c.r d) n:=fH a (mx (iM (by omega)));have j:M.shrN (x.c.r d) n<=65535:=eA (gF _ a) b;clear l u R;conv=>arg 2;whnf
 go_wp2_with (first
  | (go_at_call 146;refine(znD _ _ _ a b g t.2).mono ?_;rintro e w5 ⟨rfl,rfl⟩)
  | (go_at_call 147;refine(zvc _ _ _ a b g t.2).mono ?_;rintro e H ⟨rfl,rfl⟩)
  | (go_at_call 144;refine(zeB y.out (M.shrN (x.c.r d) n) i j (M.shrC (x.c.r d) n) false F.out).mono ?_;rintro e H ⟨rfl,k⟩;have KM:=hid k;obtain⟨_,o,_,_,_,I,_,_,L,N,_⟩:=KM.out.kcells;clear k)
  | (go_at_call 143;refine(qr y.out (M.shrN (x.c.r d) n) i j d z bo KM.out o).mono ?_;rintro e w7 ⟨rfl,p⟩;have P:=hid p))
 exact E.out _ _ _ ⟨U,U,U,U,U⟩ (P.out.cyc _)
end
end Go.Proofs.YthghjlinhokimaaGreatDoor
