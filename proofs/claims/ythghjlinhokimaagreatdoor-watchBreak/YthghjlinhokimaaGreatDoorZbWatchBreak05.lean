/-
  Parts of a proof, joined.
-/
import Derived.Test.YthghjlinhokimaaGreatDoorZbA
import Derived.Test.YthghjlinhokimaaGreatDoorZbWatchBreak04
set_option linter.all false
set_option maxRecDepth 100000
set_option maxHeartbeats 3200000
open Go renaming World->u
open Go.Act renaming put->ag
open Go.Value renaming int->J,slice->κ
open Go.IntKind renaming u8->au
namespace Go.Proofs.YthghjlinhokimaaGreatDoor
open Go.ChangeShapes Go.WideShapes Go.ChangeAt Go.RowKit Go.Proofs.Tryz
theorem zxF(w:u)(t:TypeId):sliceAt (w.alloc (.cells #[J au 0,J au 6,J au 0,J au 0,J au 0,J au 0,J au 121,J au 31,J au 216,J au 0] t)) (κ (some ⟨w.heap.size,0,none⟩) 10 10) jK:=by
 refine Or.inr ⟨w.heap.size,0,10,D,by decide,by simp,λi c hi=>?_⟩;have hB:=Bx.new w [J au 0,J au 6,J au 0,J au 0,J au 0,J au 0,J au 121,J au 31,J au 216,J au 0] t (b:=w.heap.size) D;rw[aX];refine hB.at i _ ?_;have a:=(ay.1 hi).1;have hc:i=0 \/ i=1 \/ i=2 \/ i=3 \/ i=4 \/ i=5 \/ i=6 \/ i=7 \/ i=8 \/ i=9:=by simp[jK] at a;omega
 rcases hc with rfl|rfl|rfl|rfl|rfl|rfl|rfl|rfl|rfl|rfl <;> (cases hi;rfl)
theorem zxG(Z:u):kO (Z.alloc (.cells (lE rC).toArray 78)) (κ (some ⟨Z.heap.size,0,none⟩) 2 2) rC.length 4 (lE rC) :=
 ⟨D,Or.inr ⟨Z.heap.size,0,2,D,ψ _,by simp,λj x a=>by rw[aX];exact(Bx.new Z (lE rC) 78 (b:=Z.heap.size) D).at j x a⟩⟩
theorem LBx.keep{w:u}{b:Nat}{M:Mach}{S:Sl}{ι Y':u}(h:LBx w b M S ι)(hb:Below ι.heap.size ι Y'):LBx w b M S Y':=⟨bw h.low hb,h.ge,h.bx.kept hb,h.sl.kept hb⟩
theorem Wc.watched(w:u)(hF:AF w):Calls prog 25 #[] w λe w'=>e=.returned (.bool true)/\Below w.heap.size w w':=by
 have M:=hid hF;clear hF;go_enter func25,ntmps25;go_upto_region 4 with(first
  | (go_at_call 37;refine(zK jK [] _ (κ none 0 0) _ (zxF w _) (zuB _) (by decide) (by decide)).mono ?_;rintro e w2 ⟨f,rfl,h,n,N,o⟩
     change cf w2 f oT at h
     have i:=hid h;have b:Hid oT.fit:=hid n;have p:=hid (bw (stA (aR w) _) o);rw[show dv jK []=oT from D];clear h n N o)
  | (go_at_call 24;refine(Wc.trace oT f (κ none 0 0) [] 5 _ (M.out.kept a.out.low) a.out.sl (λk P=>ax (zF b.out k P) (by decide)) { b.out with main:=b.out.main } (AW _ _) (λx R=>by cases R) ⟨by decide,by decide⟩).mono ?_
     rintro e q ⟨vl,X,SX,er,acc,rfl,r,T,s,g⟩;obtain⟨rfl,rfl⟩:=zzQ r;obtain⟨U,V,el⟩:=vT T;subst el;have v:=hid (vU T);have y:=hid (kC s);have z:Hid (LBx w w2.heap.size oT f q):=hid ⟨bw a.out.low g,a.out.ge,a.out.bx.kept g,a.out.sl.kept g⟩;clear r T s g)
  | (go_at_call 29;refine(Wc.break oT f (κ none 0 0) [] 5 8 _ (M.out.kept d.out.1.low).shapes d.out.1.sl (λk P=>ax (zF b.out k P) (by decide)) { b.out with main:=b.out.main } (AW _ _) (λx R=>by cases R) ⟨by decide,by decide⟩).mono ?_
     rintro e m ⟨Z,SZ,t,er,acc,rfl,r,B,j⟩;obtain⟨rfl,rfl⟩:=zzR r;have E:=hid (kC B);have l:Hid (Below w.heap.size w m/\kO m (κ U rC.length V) rC.length 4 (lE rC)):=hid ⟨bw d.out.1.low j,d.out.2.kept j⟩;clear r B j)
  | (refine wpList_store_mid D 41 _ _ D m.heap.size 0 (υ Z SZ).toArray D D (R1.th m) cn (iq _ _ E.out) ?_
     refine Pl.cutL (λι=>Below w.heap.size w ι/\kO ι (κ U rC.length V) rC.length 4 (lE rC)) ⟨bw l.out.1 (ni (stA (aR m) _) (ψ _) _ _),l.out.2.kept (ni (stA (aR m) _) (ψ _) _ _)⟩ ?_;intro Y6 F;have H:=hid F;clear F)
  | (refine wpList_store_mid D 41 _ _ D q.heap.size 0 (υ X SX).toArray D D (R1.th q) cn (iq _ _ y.out) ?_
     refine Pl.cutL (λι=>LBx w w2.heap.size oT f ι/\kO ι (κ U rC.length V) rC.length 4 (lE rC)) ⟨LBx.keep z.out (ni (stA (aR q) _) (ψ _) _ _),v.out.kept (ni (stA (aR q) _) (ψ _) _ _)⟩ ?_;intro Y4 I;have d:=hid I;clear I)
  | (refine wpList_store_mid D 41 _ _ D w2.heap.size 0 (υ oT f).toArray D D (R1.th w2) cn (iq _ _ (kC i.out)) ?_
     refine Pl.cutL (LBx w w2.heap.size oT f) (LBx.mk0 p.out i.out) ?_;intro Y1 L;have a:=hid L;clear L)
  | (refine wpList_load_mid D 41 _ D w2.heap.size 0 D (υ oT f) _ d.out.1.bx.c underlying41 D cn ?_)
  | (refine wpList_load_mid D 41 _ D w2.heap.size 0 D (υ oT f) _ a.out.bx.c underlying41 D cn ?_))
 clear a z d l M b i p y E v;go_wp2_with (go_at_call 28;refine(Wc.sameDid _ _ rC _ (H.out.2.kept (stA (aR Y6) _)) (zxG Y6) (by decide)).mono ?_;rintro e w9 ⟨rfl,W⟩)
 go_ret;exact⟨D,bw (stA H.out.1 _) W⟩
end Go.Proofs.YthghjlinhokimaaGreatDoor
