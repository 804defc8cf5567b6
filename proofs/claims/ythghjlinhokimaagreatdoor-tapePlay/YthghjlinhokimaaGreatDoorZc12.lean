/-
  Parts of a proof, joined.
-/
import Derived.Test.YthghjlinhokimaaGreatDoorZcA
import Derived.Test.YthghjlinhokimaaGreatDoorZc06
import Derived.Test.YthghjlinhokimaaGreatDoorZc05
set_option linter.all false
set_option maxRecDepth 100000
set_option maxHeartbeats 12800000
namespace Go.Proofs.YthghjlinhokimaaGreatDoor
open Go.ChangeShapes Go.WideShapes Go.ChangeAt Go.RowKit Go.Proofs.Tryz
theorem zxM(s:Sd)(k:Nat)(q b:Int)(w:World)(y:k<8/\q=0+k)(h:s.ok)(hb:0<=b/\b<=255):Calls prog 151 #[(.agg #[.int .u16 s.a.p,.int .u16 s.a.c,.int .u8 s.a.l,.bool s.a.h,.int .u16 s.a.n,.int .u16 s.b.p,.int .u16 s.b.c,.int .u8 s.b.l,.bool s.b.h,.int .u16 s.b.n,.int .u16 s.c.p,.int .u16 s.c.c,.int .u8 s.c.l,.bool s.c.h,.int .u16 s.c.n,.int .i64 s.w]),.int .i64 q,.int .u8 b] w λe w'=>e=.returned (.agg (iE ⟨s.a.put k b,s.b,s.c,s.w⟩).toArray)/\Below w.heap.size w w':=by
 have j:∀ z:Int,0<=z/\z<=65535->z.tdiv 256=z/256/\IntKind.u16.wrap (z/256)=z/256/\IntKind.u16.wrap (z/256*256)=z/256*256/\IntKind.u16.wrap (z/256*256+b)=z/256*256+b:=λz g=>by
  refine⟨aD g.1,?_,?_,?_⟩ <;> (rw[bc];omega)
 obtain⟨p1,p2,p3,I⟩:=j _ h.a.p;obtain⟨L,M,N,P⟩:=j _ h.a.n;have R:b.tmod 16=b%16:=aq hb.1;have B:IntKind.u8.wrap (b%16)=b%16:=by rw[fK];omega
 have T:∀ z:Int,z%256+b*256=b*256+z%256:=λz=>kD _ _
 have hp:=h.a.p;have V:=h.a.n;obtain⟨z,g⟩:∃ z:Sd,z=⟨s.a.put k b,s.b,s.c,s.w⟩:=⟨_,U⟩
 rw[<- g];have hc:(k=0/\q=0) \/ (k=1/\q=1) \/ (k=2/\q=2) \/ (k=3/\q=3) \/ (k=4/\q=4) \/ (k=5/\q=5) \/ (k=6/\q=6) \/ (k=7/\q=7):=by omega
 clear j y;rcases hc with⟨rfl,rfl⟩|⟨rfl,rfl⟩|⟨rfl,rfl⟩|⟨rfl,rfl⟩|⟨rfl,rfl⟩|⟨rfl,rfl⟩|⟨rfl,rfl⟩|⟨rfl,rfl⟩
 all_goals
  have E:=hid g;clear g;go_enter func151,ntmps151;go_upto_region 1 with fail
  refine Pl.cutW (SmW w s [] (.slice none 0 0)) (SmW.two w s) ?_;intro W m;have u:=hid m;obtain⟨c0,c1,c2,c3,c4,F,tf⟩:=m.b.w0;clear m;go_upto_region 15 with fail
  refine Pl.cutW (SmW w z [] (.slice none 0 0)) (by rw[E.out];exact(u.out.v0 _).over _) ?_;clear c0 c1 c2 c3 c4 F tf u;intro W x;have i:=hid x;clear x;go_wp2_with (first
   | (refine wpList_load_mid U 36 _ U w.heap.size 0 U (iE z) _ i.out.b.c underlying36 U kJ ?_)
   | (refine wpList_store_mid U 36 _ _ U (w.heap.size+1) 0 _ U U (j2 i.out.r) kJ (jP z) ?_
      refine Pl.cutL (λW=>Below w.heap.size w W/\Bx W (w.heap.size+1) (iE z)) ⟨Bl.puts i.out.low (ek _) _,i.out.r.puts 0 (iE z) (by simp)⟩ ?_;rintro W ⟨d,f⟩;have o:=hid d;have t:=hid f;clear d f))
  have H:=lx t.out;exact ao (v:=.agg (iE z).toArray) (by simp only[results,results151];simp;exact H) U ⟨U,o.out⟩
theorem zu3(a:Int)(h:0<=a/\a<=65535):decide (M.low a 16<0)=decide (32768<=a):=by
 unfold M.low;simp only[show (16:Int).toNat=16 from U,Int.reducePow];rw[cC];split <;> omega
theorem zvW(a n:Int)(h:0<=a/\a<=65535):0<=M.shrN a n/\M.shrN a n<=65535:=by
 unfold M.shrN;have hp:(0:Int)<2 ^ n.toNat:=iM (by omega);refine⟨fH h.1 (by omega),eA (gF _ h.1) h.2⟩
section
variable {σ : Type} {m : C.Mem σ} {B nr nw : Nat} {cr cw : Array Value × Array Value} {I : World -> σ -> Prop} {T : σ -> Nat -> Prop}
theorem PI.drewN(R:RS m B nr nw cr cw I T){w:World}{p:Nat}{x:C.St σ}(h:PI B nr nw cr cw I T w p x)(k:Nat):PI B nr nw cr cw I T (w.drewN k) p x:=h.same R rfl
theorem PM.drewN{w w':World}{p:Nat}{s s':σ}(h:PM B T p s s' w w')(k:Nat):PM B T p s s' w (w'.drewN k):=Mv.drewN h k
theorem zxK(R:RS m B nr nw cr cw I T)(d s:Nat)(n v:Int)(k:d<8)(z:s<8)(E:0<=n)(j:n<=15)(b:Nat)(w:World)(p:Nat)(x:C.St σ)(h:PI B nr nw cr cw I T w p x)(hb:w.cell? ⟨b,0,none⟩=some (fv 301 #[])):Calls prog 353 #[.pointer (some ⟨p,0,none⟩),iI 12 d s n v,.pointer (some ⟨b,0,none⟩)] w (AP B nr nw cr cw I T w p x (C.act m x 12 d s n v)):=by
 obtain⟨F,H,l,L,N,P,V,cd,cs,rd,rs,g,f,X,Y⟩:=h.pre R k z 12 n v;have Z:b<w.heap.size:=aG w _ hb;have o:b≠w.heap.size:=by omega
 have bd:=M.shlN_bd (x.c.r d) n;have a:=zu3 (M.shlN (x.c.r d) n) bd;have t:=λW:World=>hid (zvM (x.c.r d) n W rd.1 rd.2 E j)
 have u:=λW:World=>hid (zc5 (M.shlN (x.c.r d) n) 16 W bd.1 bd.2 (by omega) (by omega))
 obtain⟨_,c9,c10,c11,c12,_,_,_,_,_⟩:=h.cells;have hf:=h.frozen;clear h R;generalize i:M.shlN (x.c.r d) n=y at bd a t u;have HY:=hid i;have HLOW:=hid a;clear i a;go_enter func353,ntmps353;go_wp2;go_region_held3 (λw'=>w'.cell? ⟨b,0,none⟩=some (fv 301 #[])/\w'.cell? ⟨w.heap.size,1,none⟩=some (.int .i64 d)/\w'.cell? ⟨w.heap.size,3,none⟩=some (.int .i64 n)/\w'.cell? ⟨p,d,none⟩=some (.int .u16 (x.c.r d)))
  ((go_keep;done))
  ((go_at_call 301;refine(t _).out.mono ?_;rintro e w2 ⟨rfl,q,rfl⟩))
 go_wp2_with (go_at_call 337;refine(u _).out.mono ?_;rintro e w' ⟨rfl,rfl⟩)
 go_region
 go_wp2;go_end0;rw[HLOW.out];have i:=HY.out;subst i;exact⟨U,(((((X.out.drewN f.out _).putR f.out d k _ bd.1 bd.2).putZ f.out _).putN f.out _).putC f.out _).putV f.out _,(((((Y.out.drewN _).set g.out.big d _).set g.out.big 9 _).set g.out.big 10 _).set g.out.big 11 _).set g.out.big 12 _⟩
theorem zxL(R:RS m B nr nw cr cw I T)(d s:Nat)(n v:Int)(k:d<8)(z:s<8)(E:0<=n)(j:n<=15)(b:Nat)(w:World)(p:Nat)(x:C.St σ)(h:PI B nr nw cr cw I T w p x)(hb:w.cell? ⟨b,0,none⟩=some (fv 302 #[])):Calls prog 353 #[.pointer (some ⟨p,0,none⟩),iI 13 d s n v,.pointer (some ⟨b,0,none⟩)] w (AP B nr nw cr cw I T w p x (C.act m x 13 d s n v)):=by
 obtain⟨F,H,l,L,N,P,V,cd,cs,rd,rs,g,f,X,Y⟩:=h.pre R k z 13 n v;have Z:b<w.heap.size:=aG w _ hb;have o:b≠w.heap.size:=by omega
 have bd:=zvW (x.c.r d) n rd;have a:=zu3 (M.shrN (x.c.r d) n) bd;have t:=λW:World=>hid (zvO (x.c.r d) n W rd.1 rd.2 E j)
 have u:=λW:World=>hid (zc5 (M.shrN (x.c.r d) n) 16 W bd.1 bd.2 (by omega) (by omega))
 obtain⟨_,c9,c10,c11,c12,_,_,_,_,_⟩:=h.cells;have hf:=h.frozen;clear h R;generalize i:M.shrN (x.c.r d) n=y at bd a t u;have HY:=hid i;have HLOW:=hid a;clear i a;go_enter func353,ntmps353;go_wp2;go_region_held3 (λw'=>w'.cell? ⟨b,0,none⟩=some (fv 302 #[])/\w'.cell? ⟨w.heap.size,1,none⟩=some (.int .i64 d)/\w'.cell? ⟨w.heap.size,3,none⟩=some (.int .i64 n)/\w'.cell? ⟨p,d,none⟩=some (.int .u16 (x.c.r d)))
  ((go_keep;done))
  ((go_at_call 302;refine(t _).out.mono ?_;rintro e w2 ⟨rfl,q,rfl⟩))
 go_wp2_with (go_at_call 337;refine(u _).out.mono ?_;rintro e w' ⟨rfl,rfl⟩)
 go_region
 go_wp2;go_end0;rw[HLOW.out];have i:=HY.out;subst i;exact⟨U,(((((X.out.drewN f.out _).putR f.out d k _ bd.1 bd.2).putZ f.out _).putN f.out _).putC f.out _).putV f.out _,(((((Y.out.drewN _).set g.out.big d _).set g.out.big 9 _).set g.out.big 10 _).set g.out.big 11 _).set g.out.big 12 _⟩
theorem zvX(c:C.Cpu)(w:World):Calls prog 307 #[gx c] w λe w'=>e=.returned (.bool (true))/\Below w.heap.size w w':=by
 go_enter func307,ntmps307;go_wp2;go_ret;exact⟨U,stA (J _) _⟩
theorem zvY(c:C.Cpu)(w:World):Calls prog 308 #[gx c] w λe w'=>e=.returned (.bool (c.Z))/\Below w.heap.size w w':=by
 go_enter func308,ntmps308;go_wp2;go_ret;exact⟨U,stA (J _) _⟩
theorem zvZ(c:C.Cpu)(w:World):Calls prog 309 #[gx c] w λe w'=>e=.returned (.bool (c.N))/\Below w.heap.size w w':=by
 go_enter func309,ntmps309;go_wp2;go_ret;exact⟨U,stA (J _) _⟩
theorem zv0(c:C.Cpu)(w:World):Calls prog 310 #[gx c] w λe w'=>e=.returned (.bool (c.C))/\Below w.heap.size w w':=by
 go_enter func310,ntmps310;go_wp2;go_ret;exact⟨U,stA (J _) _⟩
theorem ztd(c:C.Cpu)(w:World):Calls prog 321 #[gx c] w λe w'=>e=.returned (.bool (!c.Z))/\Below w.heap.size w w':=by
 go_enter func321,ntmps321;go_wp2;go_ret;exact⟨U,stA (J _) _⟩
end
end Go.Proofs.YthghjlinhokimaaGreatDoor
