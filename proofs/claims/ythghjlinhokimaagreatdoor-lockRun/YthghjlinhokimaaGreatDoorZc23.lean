/-
  Parts of a proof, joined.
-/
import Derived.Test.YthghjlinhokimaaGreatDoorZcA
import Derived.Test.YthghjlinhokimaaGreatDoorZc19
set_option linter.all false
set_option maxRecDepth 100000
set_option maxHeartbeats 6400000
namespace Go.Proofs.YthghjlinhokimaaGreatDoor
open Go.ChangeShapes Go.WideShapes Go.ChangeAt Go.RowKit Go.Proofs.Tryz
section
variable {F : Gx} {W : World} {M : Mach} {tk : Tk} {mb hb lb gb : Nat}
theorem zfI{k:Nat}{n:Int}(h:M.fit)(a:0<=n/\n<=255)(b:k=2 \/ k=3 \/ k=10 \/ k=11 \/ k=12 \/ k=13):(M.putM k n).fit:=by
 rcases b with rfl|rfl|rfl|rfl|rfl|rfl
 ·exact(show Mach.fit { M with t:={ M.t with r:=nR M.t.r n } } from { h with tr:=sw h.tr a,tc:=h.tc,main:=h.main })
 ·exact(show Mach.fit { M with t:={ M.t with r:=ot M.t.r n } } from { h with tr:=sy h.tr a,tc:=h.tc,main:=h.main })
 ·exact(show Mach.fit { M with fr:=nR M.fr n } from { h with fr:=sw h.fr a,main:=h.main })
 ·exact(show Mach.fit { M with fr:=ot M.fr n } from { h with fr:=sy h.fr a,main:=h.main })
 ·exact Mach.fit.of h ⟨h.main,h.aux,h.p0,h.p1,h.tr,h.tc,h.s,h.fr,sw h.to a,h.m0,h.m1⟩ ⟨U,U,U,U,U⟩ U ⟨U,U,U⟩ ⟨U,U⟩ (Or.inl U)
 ·exact Mach.fit.of h ⟨h.main,h.aux,h.p0,h.p1,h.tr,h.tc,h.s,h.fr,sy h.to a,h.m0,h.m1⟩ ⟨U,U,U,U,U⟩ U ⟨U,U,U⟩ ⟨U,U⟩ (Or.inl U)
theorem Gm.putP2(h:Gd F W M tk)(j:Pu F W mb hb lb gb)(a n:Int)(h1:53248<=a)(h2:a<=57343)(k:0<=n/\n<=255)(o:Int.tmod a 32=2):Calls prog 94 #[.int .u16 a,.int .u8 n,pt mb 0,pt hb 0,pt lb 0,pt gb 0] W λe w'=>e=.returned (.tuple #[])/\Gd F w' (M.putM 2 n) tk/\Gt F W w':=by
 obtain⟨p,e1,x1⟩:=j.m;obtain⟨q,e2,x2⟩:=j.h;have c0:=h.at 41 (.int .u16 M.t.r) U;have f0:=h.bx.f 41;have d:fu M.t.r:=h.fit.tr;have s:=h.bx.z;have i:Hid (mb≠F.g/\hb≠F.g):=hid ⟨j.m.ne,λe=>x2 (Or.inl e)⟩;have l:Hid ((M.putM 2 n).fit):=hid (zfI h.fit k (by omega));have H:=hid h;clear h j;go_enter func94,ntmps94;go_wp2_with (go_at_call 88;refine(Gm.reg3 a _ h1 h2).mono ?_;rintro e w1 ⟨rfl,rfl⟩)
 refine wp_region_held_drew (S:=λw'=>w'.cell? ⟨mb,0,none⟩=some (pt F.g 0)/\w'.cell? ⟨hb,0,none⟩=some (cZ 92 #[])) (by kernel_rfl) (⟨e1,e2⟩) ?_;intro b;refine A 0 b ?_;refine A 1 b ?_;refine A 2 b ?_;refine A 3 b ?_;refine A 4 b ?_;refine A 5 b ?_;refine A 7 b ?_;refine dQ 6 (λK c=>?_);go_simp;refine eP c (b) (λ_=>?_);clear c K;refine dQ 8 (λK c=>?_);go_simp;go_at_call 92
 refine(Gm.high _ n _ d k).mono ?_;rintro e w2 ⟨rfl,rfl⟩;try go_wp2_with fail
 refine eP c (b) (λ_=>?_);clear c K;refine A 9 b ?_;refine A 10 b ?_;refine A 11 b ?_;refine dQ 12 (λK c=>?_);go_simp;refine eP c (⟨(am (dy i.out.1)).trans b.1,(am (dy i.out.2)).trans b.2⟩) (λ_=>?_);clear c K;refine wpAnyH_done (by kernel_rfl) ?_ _;go_simp;go_wp2;go_end0;exact⟨U,H.out.drew.put (M':=M.putM 2 n) (tk':=tk) 41 _ (by omega) U ⟨U,U,U,U,U⟩ l.out,Gt.set H.out.nd (Mv.drew (Gt.refl F W)) _ _⟩
theorem Gm.putP3(h:Gd F W M tk)(j:Pu F W mb hb lb gb)(a n:Int)(h1:53248<=a)(h2:a<=57343)(k:0<=n/\n<=255)(p:Int.tmod a 32=3):Calls prog 94 #[.int .u16 a,.int .u8 n,pt mb 0,pt hb 0,pt lb 0,pt gb 0] W λe w'=>e=.returned (.tuple #[])/\Gd F w' (M.putM 3 n) tk/\Gt F W w':=by
 obtain⟨q,e1,x1⟩:=j.m;obtain⟨s,e2,x2⟩:=j.l;have c0:=h.at 41 (.int .u16 M.t.r) U;have f0:=h.bx.f 41;have d:fu M.t.r:=h.fit.tr;have u:=h.bx.z;have i:Hid (mb≠F.g/\lb≠F.g):=hid ⟨j.m.ne,λe=>x2 (Or.inl e)⟩;have o:Hid ((M.putM 3 n).fit):=hid (zfI h.fit k (by omega));have H:=hid h;clear h j;go_enter func94,ntmps94;go_wp2_with (go_at_call 88;refine(Gm.reg3 a _ h1 h2).mono ?_;rintro e w1 ⟨rfl,rfl⟩)
 refine wp_region_held_drew (S:=λw'=>w'.cell? ⟨mb,0,none⟩=some (pt F.g 0)/\w'.cell? ⟨lb,0,none⟩=some (cZ 93 #[])) (by kernel_rfl) (⟨e1,e2⟩) ?_;intro b;refine A 0 b ?_;refine A 1 b ?_;refine A 2 b ?_;refine A 3 b ?_;refine A 4 b ?_;refine A 5 b ?_;refine A 7 b ?_;refine dQ 6 (λK c=>?_);go_simp;refine eP c (b) (λ_=>?_);clear c K;refine dQ 8 (λK c=>?_);go_simp;go_at_call 93
 refine(Gm.low _ n _ d k).mono ?_;rintro e w2 ⟨rfl,rfl⟩;try go_wp2_with fail
 refine eP c (b) (λ_=>?_);clear c K;refine A 9 b ?_;refine A 10 b ?_;refine A 11 b ?_;refine dQ 12 (λK c=>?_);go_simp;refine eP c (⟨(am (dy i.out.1)).trans b.1,(am (dy i.out.2)).trans b.2⟩) (λ_=>?_);clear c K;refine wpAnyH_done (by kernel_rfl) ?_ _;go_simp;go_wp2;go_end0;exact⟨U,H.out.drew.put (M':=M.putM 3 n) (tk':=tk) 41 _ (by omega) U ⟨U,U,U,U,U⟩ o.out,Gt.set H.out.nd (Mv.drew (Gt.refl F W)) _ _⟩
theorem Gm.putR(h:Gd F W M tk)(i:Pu F W mb hb lb gb)(a n:Int)(h1:53248<=a)(h2:a<=57343)(j:0<=n/\n<=255)(k:Nat)(q:Int)(s:Int.tmod a 32=q)(hc:(k=10/\q=10) \/ (k=11/\q=11) \/ (k=12/\q=12) \/ (k=13/\q=13)):Calls prog 94 #[.int .u16 a,.int .u8 n,pt mb 0,pt hb 0,pt lb 0,pt gb 0] W λe w'=>e=.returned (.tuple #[])/\Gd F w' (M.putM k n) tk/\Gt F W w':=by
 obtain⟨t,e1,x1⟩:=i.m;obtain⟨u,e2,x2⟩:=i.h;obtain⟨v,e3,x3⟩:=i.l;have c0:=h.at 65 (.int .u16 M.fr) U;have w:=h.at 66 (.int .u16 M.to) U;have f0:=h.bx.f 65;have g0:=h.bx.f 66;have o:fu M.fr:=h.fit.fr;have p:fu M.to:=h.fit.to;have x:=h.bx.z;have d:Hid (mb≠F.g/\hb≠F.g/\lb≠F.g):=hid ⟨i.m.ne,λe=>x2 (Or.inl e),λe=>x3 (Or.inl e)⟩;have r:Hid ((M.putM k n).fit):=hid (zfI h.fit j (by omega));have H:=hid h;clear h i;rcases hc with⟨rfl,rfl⟩|⟨rfl,rfl⟩|⟨rfl,rfl⟩|⟨rfl,rfl⟩
 all_goals
  go_enter func94,ntmps94;go_wp2_with (go_at_call 88;refine(Gm.reg3 a _ h1 h2).mono ?_;rintro e w1 ⟨rfl,rfl⟩)
  refine wp_region_held_drew (S:=λw'=>w'.cell? ⟨mb,0,none⟩=some (pt F.g 0)/\w'.cell? ⟨hb,0,none⟩=some (cZ 92 #[])/\w'.cell? ⟨lb,0,none⟩=some (cZ 93 #[])) (by kernel_rfl) ⟨e1,e2,e3⟩ ?_;intro b;refine A 0 b ?_;refine A 1 b ?_;refine A 2 b ?_;refine A 3 b ?_;refine A 4 b ?_;refine A 6 b ?_;refine dQ 5 (λK c=>?_);go_simp;refine eP c (b) (λ_=>?_);clear c K;refine dQ 7 (λK c=>?_);go_simp;first
   | (go_at_call 92;first|refine(Gm.high _ n _ o j).mono ?_|refine(Gm.high _ n _ p j).mono ?_)
   | (go_at_call 93;first|refine(Gm.low _ n _ o j).mono ?_|refine(Gm.low _ n _ p j).mono ?_)
  rintro e w2 ⟨rfl,rfl⟩;try go_wp2_with fail
  refine eP c (b) (λ_=>?_);clear c K;refine A 8 b ?_;refine A 9 b ?_;refine dQ 10 (λK c=>?_);go_simp;refine eP c (⟨(am (dy d.out.1)).trans b.1,(am (dy d.out.2.1)).trans b.2.1,(am (dy d.out.2.2)).trans b.2.2⟩) (λ_=>?_);clear c K;refine wpAnyH_done (by kernel_rfl) ?_ _;go_simp;go_wp2;go_end0;first|exact⟨U,H.out.drew.put (M':=M.putM _ n) (tk':=tk) 65 _ (by omega) U ⟨U,U,U,U,U⟩ r.out,Gt.set H.out.nd (Mv.drew (Gt.refl F W)) _ _⟩|exact⟨U,H.out.drew.put (M':=M.putM _ n) (tk':=tk) 66 _ (by omega) U ⟨U,U,U,U,U⟩ r.out,Gt.set H.out.nd (Mv.drew (Gt.refl F W)) _ _⟩
end
end Go.Proofs.YthghjlinhokimaaGreatDoor
