/-
  Parts of a proof, joined.
-/
import Derived.Test.YthghjlinhokimaaGreatDoorZbA
import Derived.Test.YthghjlinhokimaaGreatDoorZb34
set_option linter.all false
set_option maxRecDepth 100000
set_option maxHeartbeats 3200000
open Go.Act renaming put->ag
namespace Go.Proofs.YthghjlinhokimaaGreatDoor
open Go.ChangeShapes Go.WideShapes Go.ChangeAt Go.RowKit Go.Proofs.Tryz
section
variable {q : Qe} {w : World} {x : C.St Bst} {d e1 : Nat} {n v : Int}
theorem zBg(R:QS q)(B:d<8)(T:e1<8)(t:-16<=n/\n<=15)(a:0<=n):qi q w 12 ⟨#[115,104,108]⟩ d e1 n v x (C.act q.m ⟨x.c,x.s,K.cyc 12⟩ 12 d e1 n v):=by
 intro bo kb η f W l y;obtain⟨o0,o1,o2,o3,o4,k0,k1,k2,U,V,X⟩:=l.kcells;have b:K.name 12=⟨#[115,104,108]⟩:=by kernel_rfl
 rw[b] at k0;clear b;have z:=hid R;have E:=hid y;have F:=hid l;obtain⟨g,h⟩:=C.Cpu.r_bd l.ok d;obtain⟨i,j⟩:=M.shlN_bd (x.c.r d) n;clear l y R;conv=>arg 2;whnf
 go_wp2_with (first
  | (go_at_call 146;refine(zqb _ _ _ g h a t.2).mono ?_;rintro e Z ⟨rfl,rfl⟩)
  | (go_at_call 147;refine(zx8 _ _ _ g h a t.2).mono ?_;rintro e H ⟨rfl,rfl⟩)
  | (go_at_call 144;refine(zfa z.out (M.shlN (x.c.r d) n) i j (M.shlC (x.c.r d) n) false F.out).mono ?_;rintro e H ⟨rfl,k⟩;have KM:=hid k;obtain⟨_,o,_,_,_,I,_,_,L,N,_⟩:=KM.out.kcells;clear k)
  | (go_at_call 143;refine(xl z.out (M.shlN (x.c.r d) n) i j d B bo KM.out o).mono ?_;rintro e w7 ⟨rfl,p⟩;have P:=hid p))
 exact E.out _ _ _ ⟨D,D,D,D,D⟩ (P.out.cyc _)
theorem zBh(R:QS q)(B:d<8)(T:e1<8)(t:-16<=n/\n<=15)(g:0<=n):qi q w 13 ⟨#[115,104,114]⟩ d e1 n v x (C.act q.m ⟨x.c,x.s,K.cyc 13⟩ 13 d e1 n v):=by
 intro bo kb η f W l y;obtain⟨o0,o1,o2,o3,o4,k0,k1,k2,U,V,X⟩:=l.kcells;have h:K.name 13=⟨#[115,104,114]⟩:=by kernel_rfl
 rw[h] at k0;clear h;have z:=hid R;have E:=hid y;have F:=hid l;obtain⟨a,b⟩:=C.Cpu.r_bd l.ok d;have i:0<=M.shrN (x.c.r d) n:=jt a (rl (lK (by omega)));have j:M.shrN (x.c.r d) n<=65535:=iA (ka _ a) b;clear l y R;conv=>arg 2;whnf
 go_wp2_with (first
  | (go_at_call 146;refine(zqb _ _ _ a b g t.2).mono ?_;rintro e Z ⟨rfl,rfl⟩)
  | (go_at_call 147;refine(zx8 _ _ _ a b g t.2).mono ?_;rintro e H ⟨rfl,rfl⟩)
  | (go_at_call 144;refine(zfa z.out (M.shrN (x.c.r d) n) i j (M.shrC (x.c.r d) n) false F.out).mono ?_;rintro e H ⟨rfl,k⟩;have KM:=hid k;obtain⟨_,o,_,_,_,I,_,_,L,N,_⟩:=KM.out.kcells;clear k)
  | (go_at_call 143;refine(xl z.out (M.shrN (x.c.r d) n) i j d B bo KM.out o).mono ?_;rintro e w7 ⟨rfl,p⟩;have P:=hid p))
 exact E.out _ _ _ ⟨D,D,D,D,D⟩ (P.out.cyc _)
end
end Go.Proofs.YthghjlinhokimaaGreatDoor
