/-
  Parts of a proof, joined.
-/
import Derived.Test.YthghjlinhokimaaGreatDoorZcA
import Derived.Test.YthghjlinhokimaaGreatDoorZcWatchBreak04
set_option linter.all false
set_option maxRecDepth 100000
set_option maxHeartbeats 3200000
namespace Go.Proofs.YthghjlinhokimaaGreatDoor
open Go.ChangeShapes Go.WideShapes Go.ChangeAt Go.RowKit Go.Proofs.Tryz
theorem zuU(w:World)(t:TypeId):sliceAt (w.alloc (.cells #[.int .u8 0,.int .u8 6,.int .u8 0,.int .u8 0,.int .u8 0,.int .u8 0,.int .u8 121,.int .u8 31,.int .u8 216,.int .u8 0] t)) (.slice (some ⟨w.heap.size,0,none⟩) 10 10) f9:=by
 refine Or.inr ⟨w.heap.size,0,10,U,by decide,by simp,λi c hi=>?_⟩;have hB:=Bx.new w [.int .u8 0,.int .u8 6,.int .u8 0,.int .u8 0,.int .u8 0,.int .u8 0,.int .u8 121,.int .u8 31,.int .u8 216,.int .u8 0] t (b:=w.heap.size) U;rw[aN];refine hB.at i _ ?_;have a:=(aA.1 hi).1;have hc:i=0 \/ i=1 \/ i=2 \/ i=3 \/ i=4 \/ i=5 \/ i=6 \/ i=7 \/ i=8 \/ i=9:=by simp[f9] at a;omega
 rcases hc with rfl|rfl|rfl|rfl|rfl|rfl|rfl|rfl|rfl|rfl <;> (cases hi;rfl)
theorem zuV(Z:World):iJ (Z.alloc (.cells (jA mL).toArray 78)) (.slice (some ⟨Z.heap.size,0,none⟩) 2 2) mL.length 4 (jA mL) :=
 ⟨U,Or.inr ⟨Z.heap.size,0,2,U,ak _,by simp,λj x a=>by rw[aN];exact(Bx.new Z (jA mL) 78 (b:=Z.heap.size) U).at j x a⟩⟩
theorem LBx.keep{w:World}{b:Nat}{M:Mach}{S:Sl}{Y Y':World}(h:LBx w b M S Y)(hb:Below Y.heap.size Y Y'):LBx w b M S Y':=⟨bn h.low hb,h.ge,h.bx.kept hb,h.sl.kept hb⟩
theorem Wc.watched(w:World)(hF:AF w):Calls prog 25 #[] w λe w'=>e=.returned (.bool true)/\Below w.heap.size w w':=by
 have L:=hid hF;clear hF;go_enter func25,ntmps25;go_upto_region 4 with(first
  | (go_at_call 37;refine(tW f9 [] _ (.slice none 0 0) _ (zuU w _) (zvg _) (by decide) (by decide)).mono ?_;rintro e w2 ⟨f,rfl,h,n,M,o⟩
     change bM w2 f kI at h
     have i:=hid h;have b:Hid kI.fit:=hid n;have p:=hid (bn (stA (J w) _) o);rw[show cq f9 []=kI from U];clear h n M o)
  | (go_at_call 24;refine(Wc.trace kI f (.slice none 0 0) [] 5 _ (L.out.kept a.out.low) a.out.sl (λk N=>ax (sH b.out k N) (by decide)) { b.out with main:=b.out.main } (zma _ _) (λx P=>by cases P) ⟨by decide,by decide⟩).mono ?_
     rintro e q ⟨vl,X,SX,er,acc,rfl,r,R,s,g⟩;obtain⟨rfl,rfl⟩:=zwV r;obtain⟨T,V,el⟩:=vj R;subst el;have u:=hid (qA R);have v:=hid (jL s);have y:Hid (LBx w w2.heap.size kI f q):=hid ⟨bn a.out.low g,a.out.ge,a.out.bx.kept g,a.out.sl.kept g⟩;clear r R s g)
  | (go_at_call 29;refine(Wc.break kI f (.slice none 0 0) [] 5 8 _ (L.out.kept d.out.1.low).shapes d.out.1.sl (λk N=>ax (sH b.out k N) (by decide)) { b.out with main:=b.out.main } (zma _ _) (λx P=>by cases P) ⟨by decide,by decide⟩).mono ?_
     rintro e m ⟨Z,SZ,t,er,acc,rfl,r,z,j⟩;obtain⟨rfl,rfl⟩:=zwW r;have B:=hid (jL z);have l:Hid (Below w.heap.size w m/\iJ m (.slice T mL.length V) mL.length 4 (jA mL)):=hid ⟨bn d.out.1.low j,d.out.2.kept j⟩;clear r z j)
  | (refine wpList_store_mid U 41 _ _ U m.heap.size 0 (D Z SZ).toArray U U (R1.th m) bV (fG _ _ B.out) ?_
     refine Pl.cutL (λY=>Below w.heap.size w Y/\iJ Y (.slice T mL.length V) mL.length 4 (jA mL)) ⟨bn l.out.1 (j4 (stA (J m) _) (ak _) _ _),l.out.2.kept (j4 (stA (J m) _) (ak _) _ _)⟩ ?_;intro Y6 E;have F:=hid E;clear E)
  | (refine wpList_store_mid U 41 _ _ U q.heap.size 0 (D X SX).toArray U U (R1.th q) bV (fG _ _ v.out) ?_
     refine Pl.cutL (λY=>LBx w w2.heap.size kI f Y/\iJ Y (.slice T mL.length V) mL.length 4 (jA mL)) ⟨LBx.keep y.out (j4 (stA (J q) _) (ak _) _ _),u.out.kept (j4 (stA (J q) _) (ak _) _ _)⟩ ?_;intro Y4 H;have d:=hid H;clear H)
  | (refine wpList_store_mid U 41 _ _ U w2.heap.size 0 (D kI f).toArray U U (R1.th w2) bV (fG _ _ (jL i.out)) ?_
     refine Pl.cutL (LBx w w2.heap.size kI f) (LBx.mk0 p.out i.out) ?_;intro Y1 I;have a:=hid I;clear I)
  | (refine wpList_load_mid U 41 _ U w2.heap.size 0 U (D kI f) _ d.out.1.bx.c underlying41 U bV ?_)
  | (refine wpList_load_mid U 41 _ U w2.heap.size 0 U (D kI f) _ a.out.bx.c underlying41 U bV ?_))
 clear a y d l L b i p v B u;go_wp2_with (go_at_call 28;refine(Wc.sameDid _ _ mL _ (F.out.2.kept (stA (J Y6) _)) (zuV Y6) (by decide)).mono ?_;rintro e w9 ⟨rfl,W⟩)
 go_ret;exact⟨U,bn (stA F.out.1 _) W⟩
end Go.Proofs.YthghjlinhokimaaGreatDoor
