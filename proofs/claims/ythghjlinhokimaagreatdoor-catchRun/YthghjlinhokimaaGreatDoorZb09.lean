/-
  Parts of a proof, joined.
-/
import Derived.Test.YthghjlinhokimaaGreatDoorZbA
import Derived.Test.YthghjlinhokimaaGreatDoorZb06
import Derived.Test.YthghjlinhokimaaGreatDoorZb07
set_option linter.all false
set_option maxRecDepth 100000
set_option maxHeartbeats 12800000
open Go renaming World->u,Calls->Δ,bits->bW
open Bool renaming false->ξ,true->Γ
open Go.Proofs.Tryz renaming prog->ω
open Go.Value renaming int->J,bool->ν,tuple->Ψ
open Go.IntKind renaming i64->Q,u16->Y
open Go.Ending renaming returned->μ
namespace Go.Proofs.YthghjlinhokimaaGreatDoor
open Go.ChangeShapes Go.WideShapes Go.ChangeAt Go.RowKit Go.Proofs.Tryz
theorem zAV(s:Sd)(k:Nat)(q b:Int)(w:u)(B:k<8/\q=16+k)(h:s.ok)(hb:0<=b/\b<=255):Δ ω 151 #[(.agg #[J Y s.a.p,J Y s.a.c,J .u8 s.a.l,ν s.a.h,J Y s.a.n,J Y s.b.p,J Y s.b.c,J .u8 s.b.l,ν s.b.h,J Y s.b.n,J Y s.c.p,J Y s.c.c,J .u8 s.c.l,ν s.c.h,J Y s.c.n,J Q s.w]),J Q q,J .u8 b] w λe w'=>e=μ (.agg (lz ⟨s.a,s.b,s.c.put k b,s.w⟩).toArray)/\Below w.heap.size w w':=by
 have j:∀ z:Int,0<=z/\z<=65535->z.tdiv 256=z/256/\IntKind.u16.wrap (z/256)=z/256/\IntKind.u16.wrap (z/256*256)=z/256*256/\IntKind.u16.wrap (z/256*256+b)=z/256*256+b:=λz g=>by
  refine⟨aF g.1,?_,?_,?_⟩ <;> (rw[bj];omega)
 obtain⟨p1,p2,p3,L⟩:=j _ h.c.p;obtain⟨M,N,P,R⟩:=j _ h.c.n;have T:b.tmod 16=b%16:=ak hb.1;have E:IntKind.u8.wrap (b%16)=b%16:=by rw[jx];omega
 have U:∀ z:Int,z%256+b*256=b*256+z%256:=λz=>oL _ _
 have hp:=h.c.p;have V:=h.c.n;obtain⟨z,g⟩:∃ z:Sd,z=⟨s.a,s.b,s.c.put k b,s.w⟩:=⟨_,D⟩
 rw[<- g];have hc:(k=0/\q=16) \/ (k=1/\q=17) \/ (k=2/\q=18) \/ (k=3/\q=19) \/ (k=4/\q=20) \/ (k=5/\q=21) \/ (k=6/\q=22) \/ (k=7/\q=23):=by omega
 clear j B;rcases hc with⟨rfl,rfl⟩|⟨rfl,rfl⟩|⟨rfl,rfl⟩|⟨rfl,rfl⟩|⟨rfl,rfl⟩|⟨rfl,rfl⟩|⟨rfl,rfl⟩|⟨rfl,rfl⟩
 all_goals
  have F:=hid g;clear g;go_enter func151,ntmps151;go_upto_region 1 with fail
  refine Pl.cutW (SmW w s [] (.slice none 0 0)) (SmW.two w s) ?_;intro W m;have x:=hid m;obtain⟨c0,c1,c2,c3,c4,H,tf⟩:=m.b.w2;clear m;go_upto_region 15 with fail
  refine Pl.cutW (SmW w z [] (.slice none 0 0)) (by rw[F.out];exact(x.out.v2 _).over _) ?_;clear c0 c1 c2 c3 c4 H tf x;intro W y;have i:=hid y;clear y;go_wp2_with (first
   | (refine wpList_load_mid D 36 _ D w.heap.size 0 D (lz z) _ i.out.b.c underlying36 D nh ?_)
   | (refine wpList_store_mid D 36 _ _ D (w.heap.size+1) 0 _ D D (nJ i.out.r) nh (kH z) ?_
      refine Pl.cutL (λW=>Below w.heap.size w W/\Bx W (w.heap.size+1) (lz z)) ⟨Bl.puts i.out.low (fH _) _,i.out.r.puts 0 (lz z) (by simp)⟩ ?_;rintro W ⟨d,f⟩;have o:=hid d;have t:=hid f;clear d f))
  have I:=pR t.out;exact Ξ (v:=.agg (lz z).toArray) (by simp only[results,results151];simp;exact I) D ⟨D,o.out⟩
theorem zwK{k:IntKind}{a e:Int}{b b' c f d g:Bool}(h:a=e)(h1:b=b')(h2:c=f)(h3:d=g):Ending.returned (Ψ #[.int k a,ν b,ν c,ν d])=μ (Ψ #[.int k e,ν b',ν f,ν g]):=by rw[h,h1,h2,h3]
theorem zzh(a b:Int)(w:u)(f:0<=a)(c:a<=65535)(hb:0<=b)(d:b<=65535):Δ ω 145 #[J Q 28,J Y a,J Y b] w λe w'=>e=μ (Ψ #[J Y (M.mulN a b),ν (M.mulC a b),ν ξ,ν Γ])/\Below w.heap.size w w':=by
 have g:=M.mul_bd a b f c hb d;go_enter func145,ntmps145;go_wp2;refine Ξ (v:=Ψ #[J Y (a*b%65536),ν (decide (65536<=a*b)),ν ξ,ν Γ]) (by simp[results,results145,go_sem]) D ⟨zwK D ?_ D D,stA (stA (aR _) _) _⟩;unfold M.mulC;rw[dW];omega
theorem zt4(op a b:Int)(w:u)(g:0<=a)(c:a<=65535)(hb:0<=b)(d:b<=65535)(f:op=7 \/ op=15):Δ ω 145 #[J Q op,J Y a,J Y b] w λe w'=>e=μ (Ψ #[J Y (M.addN a b),ν (M.addC a b),ν (M.addV a b),ν Γ])/\Below w.heap.size w w':=by
 rcases f with rfl|rfl
 all_goals
  go_enter func145,ntmps145;go_wp2_with (go_at_call 219;refine(zzg _ _ _ (by omega) (by omega) (by omega) (by omega)).mono ?_;rintro e w' ⟨rfl,rfl⟩)
  exact Ξ (v:=Ψ #[J Y (M.addN a b),ν (M.addC a b),ν (M.addV a b),ν Γ]) (by simp[results,results145,go_sem]) D ⟨D,stA (stA (aR _) _) _⟩
theorem zt5(op a b:Int)(w:u)(g:0<=a)(c:a<=65535)(hb:0<=b)(d:b<=65535)(f:op=8 \/ op=14):Δ ω 145 #[J Q op,J Y a,J Y b] w λe w'=>e=μ (Ψ #[J Y (M.subN a b),ν (M.subC a b),ν (M.subV a b),ν Γ])/\Below w.heap.size w w':=by
 rcases f with rfl|rfl
 all_goals
  go_enter func145,ntmps145;go_wp2_with (go_at_call 220;refine(zwJ _ _ _ (by omega) (by omega) (by omega) (by omega)).mono ?_;rintro e w' ⟨rfl,rfl⟩)
  exact Ξ (v:=Ψ #[J Y (M.subN a b),ν (M.subC a b),ν (M.subV a b),ν Γ]) (by simp[results,results145,go_sem]) D ⟨D,stA (stA (aR _) _) _⟩
theorem zzi(a b:Int)(w:u)(f:0<=a)(c:a<=65535)(hb:0<=b)(d:b<=65535):Δ ω 145 #[J Q 9,J Y a,J Y b] w λe w'=>e=μ (Ψ #[J Y (bW .and Y a b),ν ξ,ν ξ,ν Γ])/\Below w.heap.size w w':=by
 go_enter func145,ntmps145;go_wp2_with (go_at_call 218;refine(gather_and _ _ _ _ _ f c hb d (by simp) (by simp)).mono ?_;rintro e w' ⟨rfl,k,rfl⟩)
 exact Ξ (v:=Ψ #[J Y (bW .and Y a b),ν ξ,ν ξ,ν Γ]) (by simp[results,results145,go_sem]) D ⟨D,below_draws (stA (stA (aR _) _) _) _⟩
theorem zA7(a b:Int)(w:u)(f:0<=a)(c:a<=65535)(hb:0<=b)(d:b<=65535):Δ ω 145 #[J Q 10,J Y a,J Y b] w λe w'=>e=μ (Ψ #[J Y (bW .or Y a b),ν ξ,ν ξ,ν Γ])/\Below w.heap.size w w':=by
 go_enter func145,ntmps145;go_wp2_with (go_at_call 218;refine(gather_or _ _ _ _ _ f c hb d (by simp) (by simp)).mono ?_;rintro e w' ⟨rfl,k,rfl⟩)
 exact Ξ (v:=Ψ #[J Y (bW .or Y a b),ν ξ,ν ξ,ν Γ]) (by simp[results,results145,go_sem]) D ⟨D,below_draws (stA (stA (aR _) _) _) _⟩
theorem zzj(a b:Int)(w:u)(f:0<=a)(c:a<=65535)(hb:0<=b)(d:b<=65535):Δ ω 145 #[J Q 11,J Y a,J Y b] w λe w'=>e=μ (Ψ #[J Y (bW .xor Y a b),ν ξ,ν ξ,ν Γ])/\Below w.heap.size w w':=by
 go_enter func145,ntmps145;go_wp2_with (go_at_call 218;refine(gather_xor _ _ _ _ _ f c hb d (by simp) (by simp)).mono ?_;rintro e w' ⟨rfl,k,rfl⟩)
 exact Ξ (v:=Ψ #[J Y (bW .xor Y a b),ν ξ,ν ξ,ν Γ]) (by simp[results,results145,go_sem]) D ⟨D,below_draws (stA (stA (aR _) _) _) _⟩
theorem zwL(op a b:Int)(w:u)(g:(op == 7)=ξ)(c:(op == 15)=ξ)(h:(op == 8)=ξ)(d:(op == 14)=ξ)
 (i:(op == 9)=ξ) (h10:(op == 10)=ξ) (h11:(op == 11)=ξ) (f:(op == 28)=ξ) :
 Δ ω 145 #[J Q op,J Y a,J Y b] w λe w'=>e=μ (Ψ #[J Y 0,ν ξ,ν ξ,ν ξ])/\Below w.heap.size w w':=by
 go_enter func145,ntmps145;go_wp2;exact Ξ (v:=Ψ #[J Y 0,ν ξ,ν ξ,ν ξ]) (by simp[results,results145,go_sem]) D ⟨D,stA (stA (aR _) _) _⟩
end Go.Proofs.YthghjlinhokimaaGreatDoor
