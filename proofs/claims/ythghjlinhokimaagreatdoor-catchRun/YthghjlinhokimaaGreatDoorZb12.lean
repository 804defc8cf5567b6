/-
  Parts of a proof, joined.
-/
import Derived.Test.YthghjlinhokimaaGreatDoorZbA
import Derived.Test.YthghjlinhokimaaGreatDoorZb06
import Derived.Test.YthghjlinhokimaaGreatDoorZb05
set_option linter.all false
set_option maxRecDepth 100000
set_option maxHeartbeats 12800000
open Option renaming none->G,some->A
open Go renaming World->u,Calls->Δ
open Go.Proofs.Tryz renaming prog->ω
open Go.Value renaming int->J,bool->ν,pointer->aB
open Go.IntKind renaming i64->Q,u16->Y
open Go.Ending renaming returned->μ
namespace Go.Proofs.YthghjlinhokimaaGreatDoor
open Go.ChangeShapes Go.WideShapes Go.ChangeAt Go.RowKit Go.Proofs.Tryz
theorem zAT(s:Sd)(k:Nat)(q b:Int)(w:u)(B:k<8/\q=0+k)(h:s.ok)(hb:0<=b/\b<=255):Δ ω 151 #[(.agg #[J Y s.a.p,J Y s.a.c,J .u8 s.a.l,ν s.a.h,J Y s.a.n,J Y s.b.p,J Y s.b.c,J .u8 s.b.l,ν s.b.h,J Y s.b.n,J Y s.c.p,J Y s.c.c,J .u8 s.c.l,ν s.c.h,J Y s.c.n,J Q s.w]),J Q q,J .u8 b] w λe w'=>e=μ (.agg (lz ⟨s.a.put k b,s.b,s.c,s.w⟩).toArray)/\Below w.heap.size w w':=by
 have j:∀ z:Int,0<=z/\z<=65535->z.tdiv 256=z/256/\IntKind.u16.wrap (z/256)=z/256/\IntKind.u16.wrap (z/256*256)=z/256*256/\IntKind.u16.wrap (z/256*256+b)=z/256*256+b:=λz g=>by
  refine⟨aF g.1,?_,?_,?_⟩ <;> (rw[bj];omega)
 obtain⟨p1,p2,p3,L⟩:=j _ h.a.p;obtain⟨M,N,P,R⟩:=j _ h.a.n;have T:b.tmod 16=b%16:=ak hb.1;have E:IntKind.u8.wrap (b%16)=b%16:=by rw[jx];omega
 have U:∀ z:Int,z%256+b*256=b*256+z%256:=λz=>oL _ _
 have hp:=h.a.p;have V:=h.a.n;obtain⟨z,g⟩:∃ z:Sd,z=⟨s.a.put k b,s.b,s.c,s.w⟩:=⟨_,D⟩
 rw[<- g];have hc:(k=0/\q=0) \/ (k=1/\q=1) \/ (k=2/\q=2) \/ (k=3/\q=3) \/ (k=4/\q=4) \/ (k=5/\q=5) \/ (k=6/\q=6) \/ (k=7/\q=7):=by omega
 clear j B;rcases hc with⟨rfl,rfl⟩|⟨rfl,rfl⟩|⟨rfl,rfl⟩|⟨rfl,rfl⟩|⟨rfl,rfl⟩|⟨rfl,rfl⟩|⟨rfl,rfl⟩|⟨rfl,rfl⟩
 all_goals
  have F:=hid g;clear g;go_enter func151,ntmps151;go_upto_region 1 with fail
  refine Pl.cutW (SmW w s [] (.slice G 0 0)) (SmW.two w s) ?_;intro W m;have x:=hid m;obtain⟨c0,c1,c2,c3,c4,H,tf⟩:=m.b.w0;clear m;go_upto_region 15 with fail
  refine Pl.cutW (SmW w z [] (.slice G 0 0)) (by rw[F.out];exact(x.out.v0 _).over _) ?_;clear c0 c1 c2 c3 c4 H tf x;intro W y;have i:=hid y;clear y;go_wp2_with (first
   | (refine wpList_load_mid D 36 _ D w.heap.size 0 D (lz z) _ i.out.b.c underlying36 D nh ?_)
   | (refine wpList_store_mid D 36 _ _ D (w.heap.size+1) 0 _ D D (nJ i.out.r) nh (kH z) ?_
      refine Pl.cutL (λW=>Below w.heap.size w W/\Bx W (w.heap.size+1) (lz z)) ⟨Bl.puts i.out.low (fH _) _,i.out.r.puts 0 (lz z) (by simp)⟩ ?_;rintro W ⟨d,f⟩;have o:=hid d;have t:=hid f;clear d f))
  have I:=pR t.out;exact Ξ (v:=.agg (lz z).toArray) (by simp only[results,results151];simp;exact I) D ⟨D,o.out⟩
theorem zxZ(a:Int)(h:0<=a/\a<=65535):decide (M.low a 16<0)=decide (32768<=a):=by
 unfold M.low;simp only[show (16:Int).toNat=16 from D,Int.reducePow];rw[dW];split <;> omega
theorem zyQ(a n:Int)(h:0<=a/\a<=65535):0<=M.shrN a n/\M.shrN a n<=65535:=by
 unfold M.shrN;have hp:(0:Int)<2 ^ n.toNat:=lK (by omega);refine⟨jt h.1 (by omega),iA (ka _ h.1) h.2⟩
section
variable {σ : Type} {m : C.Mem σ} {B nr nw : Nat} {cr cw : Array Value × Array Value} {I : u -> σ -> Prop} {T : σ -> Nat -> Prop}
theorem PI.drewN(R:RS m B nr nw cr cw I T){w:u}{p:Nat}{x:C.St σ}(h:PI B nr nw cr cw I T w p x)(k:Nat):PI B nr nw cr cw I T (w.drewN k) p x:=h.same R rfl
theorem PM.drewN{w w':u}{p:Nat}{s s':σ}(h:PM B T p s s' w w')(k:Nat):PM B T p s s' w (w'.drewN k):=Mv.drewN h k
theorem zAQ(R:RS m B nr nw cr cw I T)(d s:Nat)(n v:Int)(k:d<8)(E:s<8)(F:0<=n)(j:n<=15)(b:Nat)(w:u)(p:Nat)(x:C.St σ)(h:PI B nr nw cr cw I T w p x)(hb:w.cell? ⟨b,0,G⟩=A (fv 301 #[])):Δ ω 353 #[aB (A ⟨p,0,G⟩),lG 12 d s n v,aB (A ⟨b,0,G⟩)] w (AP B nr nw cr cw I T w p x (C.act m x 12 d s n v)):=by
 obtain⟨H,L,l,N,P,U,V,cd,cs,rd,rs,g,f,X,Z⟩:=h.pre R k E 12 n v;have hbl:b<w.heap.size:=aC w _ hb;have o:b≠w.heap.size:=by omega
 have bd:=M.shlN_bd (x.c.r d) n;have a:=zxZ (M.shlN (x.c.r d) n) bd;have t:=λW:u=>hid (zyG (x.c.r d) n W rd.1 rd.2 F j)
 have z:=λW:u=>hid (zdt (M.shlN (x.c.r d) n) 16 W bd.1 bd.2 (by omega) (by omega))
 obtain⟨_,c9,c10,c11,c12,_,_,_,_,_⟩:=h.cells;have hf:=h.frozen;clear h R;generalize i:M.shlN (x.c.r d) n=y at bd a t z;have HY:=hid i;have HLOW:=hid a;clear i a;go_enter func353,ntmps353;go_wp2;go_region_held3 (λw'=>w'.cell? ⟨b,0,G⟩=A (fv 301 #[])/\w'.cell? ⟨w.heap.size,1,G⟩=A (J Q d)/\w'.cell? ⟨w.heap.size,3,G⟩=A (J Q n)/\w'.cell? ⟨p,d,G⟩=A (J Y (x.c.r d)))
  ((go_keep;done))
  ((go_at_call 301;refine(t _).out.mono ?_;rintro e w2 ⟨rfl,q,rfl⟩))
 go_wp2_with (go_at_call 337;refine(z _).out.mono ?_;rintro e w' ⟨rfl,rfl⟩)
 go_region
 go_wp2;go_end0;rw[HLOW.out];have i:=HY.out;subst i;exact⟨D,(((((X.out.drewN f.out _).putR f.out d k _ bd.1 bd.2).putZ f.out _).putN f.out _).putC f.out _).putV f.out _,(((((Z.out.drewN _).set g.out.big d _).set g.out.big 9 _).set g.out.big 10 _).set g.out.big 11 _).set g.out.big 12 _⟩
theorem zAR(R:RS m B nr nw cr cw I T)(d s:Nat)(n v:Int)(k:d<8)(E:s<8)(F:0<=n)(j:n<=15)(b:Nat)(w:u)(p:Nat)(x:C.St σ)(h:PI B nr nw cr cw I T w p x)(hb:w.cell? ⟨b,0,G⟩=A (fv 302 #[])):Δ ω 353 #[aB (A ⟨p,0,G⟩),lG 13 d s n v,aB (A ⟨b,0,G⟩)] w (AP B nr nw cr cw I T w p x (C.act m x 13 d s n v)):=by
 obtain⟨H,L,l,N,P,U,V,cd,cs,rd,rs,g,f,X,Z⟩:=h.pre R k E 13 n v;have hbl:b<w.heap.size:=aC w _ hb;have o:b≠w.heap.size:=by omega
 have bd:=zyQ (x.c.r d) n rd;have a:=zxZ (M.shrN (x.c.r d) n) bd;have t:=λW:u=>hid (zyI (x.c.r d) n W rd.1 rd.2 F j)
 have z:=λW:u=>hid (zdt (M.shrN (x.c.r d) n) 16 W bd.1 bd.2 (by omega) (by omega))
 obtain⟨_,c9,c10,c11,c12,_,_,_,_,_⟩:=h.cells;have hf:=h.frozen;clear h R;generalize i:M.shrN (x.c.r d) n=y at bd a t z;have HY:=hid i;have HLOW:=hid a;clear i a;go_enter func353,ntmps353;go_wp2;go_region_held3 (λw'=>w'.cell? ⟨b,0,G⟩=A (fv 302 #[])/\w'.cell? ⟨w.heap.size,1,G⟩=A (J Q d)/\w'.cell? ⟨w.heap.size,3,G⟩=A (J Q n)/\w'.cell? ⟨p,d,G⟩=A (J Y (x.c.r d)))
  ((go_keep;done))
  ((go_at_call 302;refine(t _).out.mono ?_;rintro e w2 ⟨rfl,q,rfl⟩))
 go_wp2_with (go_at_call 337;refine(z _).out.mono ?_;rintro e w' ⟨rfl,rfl⟩)
 go_region
 go_wp2;go_end0;rw[HLOW.out];have i:=HY.out;subst i;exact⟨D,(((((X.out.drewN f.out _).putR f.out d k _ bd.1 bd.2).putZ f.out _).putN f.out _).putC f.out _).putV f.out _,(((((Z.out.drewN _).set g.out.big d _).set g.out.big 9 _).set g.out.big 10 _).set g.out.big 11 _).set g.out.big 12 _⟩
theorem zyR(c:C.Cpu)(w:u):Δ ω 307 #[jY c] w λe w'=>e=μ (ν (true))/\Below w.heap.size w w':=by
 go_enter func307,ntmps307;go_wp2;go_ret;exact⟨D,stA (aR _) _⟩
theorem zyS(c:C.Cpu)(w:u):Δ ω 308 #[jY c] w λe w'=>e=μ (ν (c.Z))/\Below w.heap.size w w':=by
 go_enter func308,ntmps308;go_wp2;go_ret;exact⟨D,stA (aR _) _⟩
theorem zyT(c:C.Cpu)(w:u):Δ ω 309 #[jY c] w λe w'=>e=μ (ν (c.N))/\Below w.heap.size w w':=by
 go_enter func309,ntmps309;go_wp2;go_ret;exact⟨D,stA (aR _) _⟩
theorem zyU(c:C.Cpu)(w:u):Δ ω 310 #[jY c] w λe w'=>e=μ (ν (c.C))/\Below w.heap.size w w':=by
 go_enter func310,ntmps310;go_wp2;go_ret;exact⟨D,stA (aR _) _⟩
theorem zv2(c:C.Cpu)(w:u):Δ ω 321 #[jY c] w λe w'=>e=μ (ν (!c.Z))/\Below w.heap.size w w':=by
 go_enter func321,ntmps321;go_wp2;go_ret;exact⟨D,stA (aR _) _⟩
end
end Go.Proofs.YthghjlinhokimaaGreatDoor
