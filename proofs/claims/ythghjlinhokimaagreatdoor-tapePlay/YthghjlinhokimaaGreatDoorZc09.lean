/-
  Parts of a proof, joined.
-/
import Derived.Test.YthghjlinhokimaaGreatDoorZcA
import Derived.Test.YthghjlinhokimaaGreatDoorZc06
import Derived.Test.YthghjlinhokimaaGreatDoorZc07
set_option linter.all false
set_option maxRecDepth 100000
set_option maxHeartbeats 12800000
namespace Go.Proofs.YthghjlinhokimaaGreatDoor
open Go.ChangeShapes Go.WideShapes Go.ChangeAt Go.RowKit Go.Proofs.Tryz
theorem zxO(s:Sd)(k:Nat)(q b:Int)(w:World)(y:k<8/\q=16+k)(h:s.ok)(hb:0<=b/\b<=255):Calls prog 151 #[(.agg #[.int .u16 s.a.p,.int .u16 s.a.c,.int .u8 s.a.l,.bool s.a.h,.int .u16 s.a.n,.int .u16 s.b.p,.int .u16 s.b.c,.int .u8 s.b.l,.bool s.b.h,.int .u16 s.b.n,.int .u16 s.c.p,.int .u16 s.c.c,.int .u8 s.c.l,.bool s.c.h,.int .u16 s.c.n,.int .i64 s.w]),.int .i64 q,.int .u8 b] w λe w'=>e=.returned (.agg (iE ⟨s.a,s.b,s.c.put k b,s.w⟩).toArray)/\Below w.heap.size w w':=by
 have j:∀ z:Int,0<=z/\z<=65535->z.tdiv 256=z/256/\IntKind.u16.wrap (z/256)=z/256/\IntKind.u16.wrap (z/256*256)=z/256*256/\IntKind.u16.wrap (z/256*256+b)=z/256*256+b:=λz g=>by
  refine⟨aD g.1,?_,?_,?_⟩ <;> (rw[bc];omega)
 obtain⟨p1,p2,p3,I⟩:=j _ h.c.p;obtain⟨L,M,N,P⟩:=j _ h.c.n;have R:b.tmod 16=b%16:=aq hb.1;have B:IntKind.u8.wrap (b%16)=b%16:=by rw[fK];omega
 have T:∀ z:Int,z%256+b*256=b*256+z%256:=λz=>kD _ _
 have hp:=h.c.p;have V:=h.c.n;obtain⟨z,g⟩:∃ z:Sd,z=⟨s.a,s.b,s.c.put k b,s.w⟩:=⟨_,U⟩
 rw[<- g];have hc:(k=0/\q=16) \/ (k=1/\q=17) \/ (k=2/\q=18) \/ (k=3/\q=19) \/ (k=4/\q=20) \/ (k=5/\q=21) \/ (k=6/\q=22) \/ (k=7/\q=23):=by omega
 clear j y;rcases hc with⟨rfl,rfl⟩|⟨rfl,rfl⟩|⟨rfl,rfl⟩|⟨rfl,rfl⟩|⟨rfl,rfl⟩|⟨rfl,rfl⟩|⟨rfl,rfl⟩|⟨rfl,rfl⟩
 all_goals
  have E:=hid g;clear g;go_enter func151,ntmps151;go_upto_region 1 with fail
  refine Pl.cutW (SmW w s [] (.slice none 0 0)) (SmW.two w s) ?_;intro W m;have u:=hid m;obtain⟨c0,c1,c2,c3,c4,F,tf⟩:=m.b.w2;clear m;go_upto_region 15 with fail
  refine Pl.cutW (SmW w z [] (.slice none 0 0)) (by rw[E.out];exact(u.out.v2 _).over _) ?_;clear c0 c1 c2 c3 c4 F tf u;intro W x;have i:=hid x;clear x;go_wp2_with (first
   | (refine wpList_load_mid U 36 _ U w.heap.size 0 U (iE z) _ i.out.b.c underlying36 U kJ ?_)
   | (refine wpList_store_mid U 36 _ _ U (w.heap.size+1) 0 _ U U (j2 i.out.r) kJ (jP z) ?_
      refine Pl.cutL (λW=>Below w.heap.size w W/\Bx W (w.heap.size+1) (iE z)) ⟨Bl.puts i.out.low (ek _) _,i.out.r.puts 0 (iE z) (by simp)⟩ ?_;rintro W ⟨d,f⟩;have o:=hid d;have t:=hid f;clear d f))
  have H:=lx t.out;exact ao (v:=.agg (iE z).toArray) (by simp only[results,results151];simp;exact H) U ⟨U,o.out⟩
theorem ztV{k:IntKind}{a e:Int}{b b' c f d g:Bool}(h:a=e)(h1:b=b')(h2:c=f)(h3:d=g):Ending.returned (.tuple #[.int k a,.bool b,.bool c,.bool d])=.returned (.tuple #[.int k e,.bool b',.bool f,.bool g]):=by rw[h,h1,h2,h3]
theorem zwm(a b:Int)(w:World)(f:0<=a)(c:a<=65535)(hb:0<=b)(d:b<=65535):Calls prog 145 #[.int .i64 28,.int .u16 a,.int .u16 b] w λe w'=>e=.returned (.tuple #[.int .u16 (M.mulN a b),.bool (M.mulC a b),.bool false,.bool true])/\Below w.heap.size w w':=by
 have g:=M.mul_bd a b f c hb d;go_enter func145,ntmps145;go_wp2;refine ao (v:=.tuple #[.int .u16 (a*b%65536),.bool (decide (65536<=a*b)),.bool false,.bool true]) (by simp[results,results145,go_sem]) U ⟨ztV U ?_ U U,stA (stA (J _) _) _⟩;unfold M.mulC;rw[cC];omega
theorem zrs(op a b:Int)(w:World)(g:0<=a)(c:a<=65535)(hb:0<=b)(d:b<=65535)(f:op=7 \/ op=15):Calls prog 145 #[.int .i64 op,.int .u16 a,.int .u16 b] w λe w'=>e=.returned (.tuple #[.int .u16 (M.addN a b),.bool (M.addC a b),.bool (M.addV a b),.bool true])/\Below w.heap.size w w':=by
 rcases f with rfl|rfl
 all_goals
  go_enter func145,ntmps145;go_wp2_with (go_at_call 219;refine(zwl _ _ _ (by omega) (by omega) (by omega) (by omega)).mono ?_;rintro e w' ⟨rfl,rfl⟩)
  exact ao (v:=.tuple #[.int .u16 (M.addN a b),.bool (M.addC a b),.bool (M.addV a b),.bool true]) (by simp[results,results145,go_sem]) U ⟨U,stA (stA (J _) _) _⟩
theorem zrt(op a b:Int)(w:World)(g:0<=a)(c:a<=65535)(hb:0<=b)(d:b<=65535)(f:op=8 \/ op=14):Calls prog 145 #[.int .i64 op,.int .u16 a,.int .u16 b] w λe w'=>e=.returned (.tuple #[.int .u16 (M.subN a b),.bool (M.subC a b),.bool (M.subV a b),.bool true])/\Below w.heap.size w w':=by
 rcases f with rfl|rfl
 all_goals
  go_enter func145,ntmps145;go_wp2_with (go_at_call 220;refine(ztU _ _ _ (by omega) (by omega) (by omega) (by omega)).mono ?_;rintro e w' ⟨rfl,rfl⟩)
  exact ao (v:=.tuple #[.int .u16 (M.subN a b),.bool (M.subC a b),.bool (M.subV a b),.bool true]) (by simp[results,results145,go_sem]) U ⟨U,stA (stA (J _) _) _⟩
theorem zwn(a b:Int)(w:World)(f:0<=a)(c:a<=65535)(hb:0<=b)(d:b<=65535):Calls prog 145 #[.int .i64 9,.int .u16 a,.int .u16 b] w λe w'=>e=.returned (.tuple #[.int .u16 (bits .and .u16 a b),.bool false,.bool false,.bool true])/\Below w.heap.size w w':=by
 go_enter func145,ntmps145;go_wp2_with (go_at_call 218;refine(gather_and _ _ _ _ _ f c hb d (by simp) (by simp)).mono ?_;rintro e w' ⟨rfl,k,rfl⟩)
 exact ao (v:=.tuple #[.int .u16 (bits .and .u16 a b),.bool false,.bool false,.bool true]) (by simp[results,results145,go_sem]) U ⟨U,below_draws (stA (stA (J _) _) _) _⟩
theorem zx1(a b:Int)(w:World)(f:0<=a)(c:a<=65535)(hb:0<=b)(d:b<=65535):Calls prog 145 #[.int .i64 10,.int .u16 a,.int .u16 b] w λe w'=>e=.returned (.tuple #[.int .u16 (bits .or .u16 a b),.bool false,.bool false,.bool true])/\Below w.heap.size w w':=by
 go_enter func145,ntmps145;go_wp2_with (go_at_call 218;refine(gather_or _ _ _ _ _ f c hb d (by simp) (by simp)).mono ?_;rintro e w' ⟨rfl,k,rfl⟩)
 exact ao (v:=.tuple #[.int .u16 (bits .or .u16 a b),.bool false,.bool false,.bool true]) (by simp[results,results145,go_sem]) U ⟨U,below_draws (stA (stA (J _) _) _) _⟩
theorem zwo(a b:Int)(w:World)(f:0<=a)(c:a<=65535)(hb:0<=b)(d:b<=65535):Calls prog 145 #[.int .i64 11,.int .u16 a,.int .u16 b] w λe w'=>e=.returned (.tuple #[.int .u16 (bits .xor .u16 a b),.bool false,.bool false,.bool true])/\Below w.heap.size w w':=by
 go_enter func145,ntmps145;go_wp2_with (go_at_call 218;refine(gather_xor _ _ _ _ _ f c hb d (by simp) (by simp)).mono ?_;rintro e w' ⟨rfl,k,rfl⟩)
 exact ao (v:=.tuple #[.int .u16 (bits .xor .u16 a b),.bool false,.bool false,.bool true]) (by simp[results,results145,go_sem]) U ⟨U,below_draws (stA (stA (J _) _) _) _⟩
theorem ztW(op a b:Int)(w:World)(g:(op == 7)=false)(c:(op == 15)=false)(h:(op == 8)=false)(d:(op == 14)=false)
 (i:(op == 9)=false) (h10:(op == 10)=false) (h11:(op == 11)=false) (f:(op == 28)=false) :
 Calls prog 145 #[.int .i64 op,.int .u16 a,.int .u16 b] w λe w'=>e=.returned (.tuple #[.int .u16 0,.bool false,.bool false,.bool false])/\Below w.heap.size w w':=by
 go_enter func145,ntmps145;go_wp2;exact ao (v:=.tuple #[.int .u16 0,.bool false,.bool false,.bool false]) (by simp[results,results145,go_sem]) U ⟨U,stA (stA (J _) _) _⟩
end Go.Proofs.YthghjlinhokimaaGreatDoor
