/-
  Parts of a proof, joined.
-/
import Derived.Test.YthghjlinhokimaaGreatDoorZcA
import Derived.Test.YthghjlinhokimaaGreatDoorZc10
import Derived.Test.YthghjlinhokimaaGreatDoorZc12
import Derived.Test.YthghjlinhokimaaGreatDoorZc11
import Derived.Test.YthghjlinhokimaaGreatDoorZc09
import Derived.Lib.SlBuf
set_option linter.all false
set_option maxRecDepth 100000
set_option maxHeartbeats 3200000
namespace Go.Proofs.YthghjlinhokimaaGreatDoor
open Go.ChangeShapes Go.WideShapes Go.ChangeAt Go.RowKit Go.Proofs.Tryz
section
variable {F : Fx} {W : World} {M M' : Mach} {tk : Tk}
theorem zq6(n:Nat)(a b:Array Value)(w:World):(binOp .eql 120 (.func (.func n) a b) .nilFunc).run prog w=.ok (.bool false) w:=by kernel_rfl
abbrev iX(g o:Nat):Value:=.agg #[dX 132 g o,dX 133 g o]
theorem zfC(g:Nat)(w:World):Calls prog 69 #[pt g 0] w λe w'=>e=.returned (iX g 77)/\Below w.heap.size w w':=by
 go_enter func69,ntmps69;go_wp2;go_region_with fail
 all_goals go_wp2
 all_goals
  refine ao (v:=.agg _) (by simp[results,results69,go_sem]) U ⟨U,?_⟩;exact(stA (J _) _).drew
theorem zha(g:Nat)(w:World):Calls prog 114 #[pt g 0] w λe w'=>e=.returned (iX g 143)/\Below w.heap.size w w':=by
 go_enter func114,ntmps114;go_wp2;go_region_with fail
 all_goals go_wp2
 all_goals
  refine ao (v:=.agg _) (by simp[results,results114,go_sem]) U ⟨U,?_⟩;exact(stA (J _) _).drew
def ik(F:Fx)(M:Mach)(tk:Tk)(o:Nat)(a x:Int):Prop:=∀ W,Bd F W M tk->Calls prog 132 #[pt F.g o,.int .u16 a] W λe w'=>e=.returned (.int .u8 x)/\Bd F w' M tk/\Bt F W w'
theorem Bu.byte_at(h:Bd F W M tk)(o:Nat)(a x:Int)(d:ik F M tk o a x):Calls prog 210 #[iX F.g o,.int .u16 a] W λe w'=>e=.returned (.int .u8 x)/\Bd F w' M tk/\Bt F W w':=by
 have f:=zq6 132 #[pt F.g o] #[];have H:=hid h;clear h;go_enter func210,ntmps210;go_wp2_with (go_at_call 132;refine(d _ (H.out.over _)).mono ?_;rintro e w1 ⟨rfl,b,c⟩)
 go_ret;exact⟨U,b,Mv.trans (Mv.of_below H.out.big (stA (J _) _)) c⟩
end
theorem ztL(s:Sd)(k:Nat)(b:Int)(w:World)(d:k<24)(h:s.ok)(hb:0<=b/\b<=255):Calls prog 151 #[(.agg #[.int .u16 s.a.p,.int .u16 s.a.c,.int .u8 s.a.l,.bool s.a.h,.int .u16 s.a.n,.int .u16 s.b.p,.int .u16 s.b.c,.int .u8 s.b.l,.bool s.b.h,.int .u16 s.b.n,.int .u16 s.c.p,.int .u16 s.c.c,.int .u8 s.c.l,.bool s.c.h,.int .u16 s.c.n,.int .i64 s.w]),.int .i64 k,.int .u8 b] w λe w'=>e=.returned (.agg (iE (s.put k b)).toArray)/\Below w.heap.size w w':=by
 by_cases h1:k<8
 ·have e:s.put k b=⟨s.a.put k b,s.b,s.c,s.w⟩:=by unfold Sd.put;rw[Q h1,gG h1]
  rw[e];exact zxM s k k b w ⟨h1,by omega⟩ h hb
 by_cases h2:k<16
 ·obtain⟨j,rfl⟩:∃ j,k=8+j:=⟨k-8,by omega⟩
  have e:s.put (8+j) b=⟨s.a,s.b.put j b,s.c,s.w⟩:=by unfold Sd.put;rw[G h1,Q h2,show (8+j)%8=j by omega]
  rw[e];exact zxN s j _ b w ⟨by omega,by omega⟩ h hb
 ·obtain⟨j,rfl⟩:∃ j,k=16+j:=⟨k-16,by omega⟩
  have e:s.put (16+j) b=⟨s.a,s.b,s.c.put j b,s.w⟩:=by unfold Sd.put;rw[G h1,G h2,show (16+j)%8=j by omega]
  rw[e];exact zxO s j _ b w ⟨by omega,by omega⟩ h hb
section
variable {F : Fx} {W : World} {M M' : Mach} {tk : Tk}
theorem nC(M:Mach)(a:Int):0<=M.lookM a/\M.lookM a<=255:=by
 unfold Mach.lookM jq;split
 ·split
  ·exact sr _ _
  ·omega
 ·split
  ·exact sr _ _
  ·split
   ·exact sr _ _
   ·omega
theorem zjL(M:Mach)(k:Nat):(M.xfer k).fr=M.fr/\(M.xfer k).to=M.to/\(M.xfer k).mrom=M.mrom/\(M.xfer k).ram=M.ram/\(M.xfer k).video.length=M.video.length/\{ M.xfer k with video:=M.video }=M:=by
 induction k with
 | zero=>exact⟨U,U,U,U,U,U⟩
 | succ k a =>
  obtain⟨h1,h2,h3,h4,b,c⟩:=a;exact⟨h1,h2,h3,h4,by simp[Mach.xfer,pP,b],c⟩
theorem Bd.xf(h:Bd F W M tk)(a:Nat)(hc:F.S.vi=.slice (some ⟨F.vi,0,none⟩) 256 a):W.cell? ⟨F.g,34,none⟩=some (.slice (some ⟨F.vi,0,none⟩) 256 a)/\W.cell? ⟨F.g,65,none⟩=some (.int .u16 M.fr)/\W.cell? ⟨F.g,66,none⟩=some (.int .u16 M.to) :=
 ⟨by rw[<- hc];exact h.at 34 _ U,h.at 65 _ U,h.at 66 _ U⟩
theorem zv8{a b c:Value}{o:Nat}{v:Value}(d:F.g≠F.vi)(h:W.cell? ⟨F.g,34,none⟩=some a/\W.cell? ⟨F.g,65,none⟩=some b/\W.cell? ⟨F.g,66,none⟩=some c):(W.setCell ⟨F.vi,o,none⟩ v).drew.cell? ⟨F.g,34,none⟩=some a/\(W.setCell ⟨F.vi,o,none⟩ v).drew.cell? ⟨F.g,65,none⟩=some b/\(W.setCell ⟨F.vi,o,none⟩ v).drew.cell? ⟨F.g,66,none⟩=some c :=
 ⟨tJ d h.1,tJ d h.2.1,tJ d h.2.2⟩
theorem zq5(h:Bd F W M tk)(n:Int)(I:0<=n/\n<=255)(L:0<=tk.n/\tk.n<=1000000000000):Calls prog 192 #[pt F.g 0,.int .u8 n] W λe w'=>e=.returned (.tuple #[])/\Bd F w' (M.putM 14 n) (tk.add (2*n))/\Bt F W w':=by
 obtain⟨b,c,_,_⟩:=h.viV;have P:=hid c;obtain⟨N,rfl⟩:=aB I.1;have Z:N<=255:=by omega
 have H:=hid h;have R:=h.fit.fr;have T:=h.fit.to;have r:=h.nd.d.2.2.1;clear h c;go_enter func192,ntmps192;go_wp2;go_loopw [7] (λi wr=>∃ k:Nat,k<=N/\i=.int .u16 k/\Bd F wr (M.xfer k) tk/\Bt F W wr) (λi _=>N-(intOf i).toNat)
 case atStart=>exact⟨0,by omega,U,H.out,Bt.refl _ _⟩
 case round =>
  obtain⟨k,hk,rfl,hB,q⟩:=hrel;by_cases V:k<N
  ·have l:=hid hB
   have s:=hid q;obtain⟨r1,r2,_,_,r5,_⟩:=zjL M k;obtain⟨c1,c2,c3⟩:=hB.xf b P.out;rw[r1] at c2;rw[r2] at c3;have X:=hB.bx.z;obtain⟨v1,v2,v3⟩:=hB.viAt ((M.to+k)%65536%256) (by omega) (by omega);have v:(k:Int)<N:=by omega
   have a:∀ w:World,Calls prog 181 #[.slice (some ⟨F.vi,0,none⟩) 256 b,.int .u16 ((M.to+k)%65536)] w λe w'=>e=.returned (pt F.vi ((M.to+k)%65536%256).toNat)/\w=w':=λw=>tI F.vi 256 b ((M.to+k)%65536) w (by omega) (by omega) (by omega)
   have o:=hid (l.out.drew.putVideo ((M.to+k)%65536%256) ((M.xfer k).lookM ((M.fr+k)%65536)) (by omega) (by omega) (nC _ _));have t:=hid (Bt.setV l.out.nd s.out.drew ((M.to+k)%65536%256).toNat (.int .u8 ((M.xfer k).lookM ((M.fr+k)%65536))));clear hB q;have m:=hid (zfA l.out.drew ((M.fr+k)%65536) (by omega));generalize y:((M.to+k)%65536%256).toNat=j at *;generalize B:(M.xfer k).lookM ((M.fr+k)%65536)=x at *;have u:=hid a;have HJ:=hid y;have p:=hid B;clear y B a;go_wp2;go_region_held3 (λw'=>w'.cell? ⟨F.g,34,none⟩=some (.slice (some ⟨F.vi,0,none⟩) 256 b)/\w'.cell? ⟨F.g,65,none⟩=some (.int .u16 M.fr)/\w'.cell? ⟨F.g,66,none⟩=some (.int .u16 M.to))
    ((first|(with_reducible exact⟨c1,c2,c3⟩)|(with_reducible exact zv8 r ⟨c1,c2,c3⟩)|(go_keep;done)))
    ((first
      | (go_at_call 181;refine(u.out _).mono ?_;rintro e w1 ⟨rfl,rfl⟩)
      | (go_at_call 214;refine m.out.mono ?_;rintro e w1 ⟨rfl,rfl⟩)))
   go_wp2
   go_roundw
   case rel =>
    refine⟨k+1,by omega,by go_num,?_,t.out⟩;have hp:=o.out;rw[<- p.out] at hp;rw[<- p.out];exact hp
   case measure=>simp[intOf];omega
  ·obtain rfl:k=N:=by omega
   have c1:=hB.at 75 (.int .i64 tk.n) U;have f1:=hB.bx.f 75;have X:=hB.bx.z;have l:=hid hB;have s:=hid q;have E:M.putM 14 (k:Int)=M.xfer k:=by show M.xfer (k:Int).toNat=_;rw[bH]
   have Y:=hid E;clear hB q E;go_wp2;go_end0;rw[Y.out];exact⟨U,l.out.put 75 _ (by omega) U ⟨U,U,U,U,U⟩ l.out.fit,s.out.set l.out.nd 75 _⟩
end
abbrev sRom:Value:=.string { data:=#[114,111,109] }
abbrev sRam:Value:=.string { data:=#[114,97,109] }
abbrev sWin:Value:=.string { data:=#[119,105,110,100,111,119] }
abbrev xj:Value:=.string { data:=#[112,111,114,116,115] }
abbrev xk:Value:=.string { data:=#[] }
theorem Gm.reg0(a:Int)(w:World)(b:0<=a)(h:a<32768):Calls prog 88 #[.int .u16 a] w λe w'=>e=.returned sRom/\w=w':=by
 have c:Int.tdiv a 4096=a/4096:=aD b;have h1:a/4096<8:=by omega
 have h2:0<=a/4096:=by omega
 go_enter func88,ntmps88;go_wp2;go_ret;exact⟨U,U⟩
theorem Gm.reg1(a:Int)(w:World)(b:32768<=a)(h:a<49152):Calls prog 88 #[.int .u16 a] w λe w'=>e=.returned sRam/\w=w':=by
 have c:Int.tdiv a 4096=a/4096:=aD (by omega);have h1:a/4096<12:=by omega
 have h2:8<=a/4096:=by omega
 go_enter func88,ntmps88;go_wp2;go_ret;exact⟨U,U⟩
theorem Gm.reg2(a:Int)(w:World)(b:49152<=a)(h:a<53248):Calls prog 88 #[.int .u16 a] w λe w'=>e=.returned sWin/\w=w':=by
 have c:Int.tdiv a 4096=12:=by rw[aD (by omega)];omega
 go_enter func88,ntmps88;go_wp2;go_ret;exact⟨U,U⟩
theorem Gm.reg3(a:Int)(w:World)(b:53248<=a)(h:a<=57343):Calls prog 88 #[.int .u16 a] w λe w'=>e=.returned xj/\w=w':=by
 have c:Int.tdiv a 4096=13:=by rw[aD (by omega)];omega
 go_enter func88,ntmps88;go_wp2;go_ret;exact⟨U,U⟩
theorem Gm.reg4(a:Int)(w:World)(c:57344<=a)(h:a<=65535):Calls prog 88 #[.int .u16 a] w λe w'=>e=.returned xk/\w=w':=by
 obtain⟨q,d,h1,b⟩:∃ q,Int.tdiv a 4096=q/\14<=q/\q<=15:=⟨_,U,by rw[aD (by omega)];omega⟩
 have h2:(q == 12)=false:=by simp;omega
 have h3:(q == 13)=false:=by simp;omega
 have h4:8<=q:=by omega
 have f:12<=q:=by omega
 go_enter func88,ntmps88;go_wp2;go_ret;exact⟨U,U⟩
theorem zoZ{l:List UInt8}{a:Int}(d:0<=a)(h:a<l.length):∃ c,l[a.toNat]?=some c/\jq l a=(c.toNat:Int):=by
 have b:a.toNat<l.length:=by omega
 refine⟨l[a.toNat],au b,?_⟩;unfold jq jd;rw[Q h,dK,au b];rfl
theorem zhi(v:Value)(l:List UInt8)(a:Int)(w:World)(h:sliceAt w v l)(i:0<=a)(h1:a<=65535):Calls prog 149 #[v,.int .u16 a] w λe w'=>e=.returned (.int .u8 (jq l a))/\w=w':=by
 by_cases d:a<l.length
 ·obtain⟨c,hc,f⟩:=zoZ i d
  rw[f];rcases h with⟨u,b,_,rfl⟩|⟨g,o,b,rfl,h2,h3,h4⟩
  ·simp at d;omega
  ·have j:=h4 _ _ hc
   clear h4 f hc;go_enter func149,ntmps149;go_wp2;go_ret;exact⟨U,U⟩
 ·have f:jq l a=255:=by unfold jq;rw[G d]
  rw[f];obtain⟨u,b,e⟩:∃ u b,v=.slice u l.length b:=by
   rcases h with⟨u,b,e1,e2⟩|⟨g,o,b,e1,_⟩
   ·exact⟨u,b,by rw[e1,e2];rfl⟩
   ·exact⟨_,_,e1⟩
  subst e;clear h;go_enter func149,ntmps149;go_wp2;go_ret;exact⟨U,U⟩
section
variable {F : Gx} {W : World} {M : Mach} {tk : Tk}
theorem zdB(h:Gd F W M tk)(a:Int)(c:0<=a/\a<=65535):Calls prog 89 #[pt F.g 0,.int .u16 a] W λe w'=>e=.returned (.int .u8 (if cu a then 255 else M.lookM a))/\W=w':=by
 have o:=h.bx.z;unfold Mach.lookM cu;by_cases h1:a<32768
 ·rw[G (by simp;omega),Q h1]
  have d:=h.at 30 F.S.mr U;have f:=hid h.mr;clear h;go_enter func89,ntmps89;go_wp2_with (first
   | (go_at_call 88;refine(Gm.reg0 a _ c.1 h1).mono ?_;rintro e w1 ⟨rfl,rfl⟩)
   | (go_at_call 149;refine(zhi _ _ a _ f.out c.1 c.2).mono ?_;rintro e w1 ⟨rfl,rfl⟩))
  go_ret;exact⟨U,U⟩
 ·by_cases h2:a<49152
  ·rw[G (by simp;omega),G h1,Q h2]
   obtain⟨b,e,_,_⟩:=h.ramV;have i:W.cell? ⟨F.g,32,none⟩=some (.slice (some ⟨F.ra,0,none⟩) 128 b):=(h.at 32 F.S.ra U).trans (by rw[e]);obtain⟨j,k,l⟩:=h.ramAt ((a-32768)%128) (by omega) (by omega);have m:Int.tmod (a-32768) 128=(a-32768)%128:=aq (by omega);clear h e;go_enter func89,ntmps89;go_wp2_with (go_at_call 88;refine(Gm.reg1 a _ (by omega) h2).mono ?_;rintro e w1 ⟨rfl,rfl⟩)
   go_ret;exact⟨U,U⟩
  ·by_cases h3:a<53248
   ·rw[G (by simp;omega),G h1,G h2,Q h3]
    obtain⟨b,e,_,_⟩:=h.viV;have n:W.cell? ⟨F.g,34,none⟩=some (.slice (some ⟨F.vi,0,none⟩) 256 b):=(h.at 34 F.S.vi U).trans (by rw[e]);obtain⟨j,k,l⟩:=h.viAt ((a-49152)%256) (by omega) (by omega);have m:Int.tmod a 256=(a-49152)%256:=by rw[aq (by omega)];omega
    clear h e;go_enter func89,ntmps89;go_wp2_with (go_at_call 88;refine(Gm.reg2 a _ (by omega) h3).mono ?_;rintro e w1 ⟨rfl,rfl⟩)
    go_ret;exact⟨U,U⟩
   ·rw[G h1,G h2,G h3]
    simp only[ite_self];by_cases h4:a<=57343
    ·go_enter func89,ntmps89
     go_wp2_with (go_at_call 88;refine(Gm.reg3 a _ (by omega) h4).mono ?_;rintro e w1 ⟨rfl,rfl⟩)
     go_ret;exact⟨U,U⟩
    ·go_enter func89,ntmps89
     go_wp2_with (go_at_call 88;refine(Gm.reg4 a _ (by omega) c.2).mono ?_;rintro e w1 ⟨rfl,rfl⟩)
     go_ret;exact⟨U,U⟩
end
theorem rO(b:Nat)(h:b<256):bits .and .u8 (b:Int) 3=((b%4:Nat):Int):=by
 rw[show (3:Int)=((3:Nat):Int) from U,ji _ _ (by omega) (by omega),show (3:Nat)=2 ^ 2-1 from U,dq]
theorem four(b:Nat)(h:b<256):(b:Int)/64=((b/4 ^ 3%4:Nat):Int)/\bits .and .u8 ((b:Int)/16) 3=((b/4 ^ 2%4:Nat):Int)/\bits .and .u8 ((b:Int)/4) 3=((b/4 ^ 1%4:Nat):Int)/\bits .and .u8 (b:Int) 3=((b/4 ^ 0%4:Nat):Int):=by
 refine⟨?_,?_,?_,?_⟩
 ·have:b/4 ^ 3%4=b/64:=by omega
  rw[this];omega
 ·rw[show (b:Int)/16=((b/4 ^ 2:Nat):Int) by omega];exact rO _ (by omega)
 ·rw[show (b:Int)/4=((b/4 ^ 1:Nat):Int) by omega];exact rO _ (by omega)
 ·rw[show b/4 ^ 0=b by omega];exact rO _ h
theorem agg4{a b c d e b' f g:Int}(h1:a=e)(h2:b=b')(h3:c=f)(h4:d=g):Value.agg #[.int .u8 a,.int .u8 b,.int .u8 c,.int .u8 d]=.agg #[.int .u8 e,.int .u8 b',.int .u8 f,.int .u8 g]:=by rw[h1,h2,h3,h4]
theorem tY(m:List UInt8)(v:Value)(g o c:Nat)(t y:Nat)(w:World)(h:Mm w m v g o c)(a:t<256)(b:y<4):Calls prog 282 #[v,.int .u8 t,.int .i64 y] w λe w'=>e=.returned (.agg #[.int .u8 (td m t 0 y),.int .u8 (td m t 1 y),.int .u8 (td m t 2 y),.int .u8 (td m t 3 y)])/\Below w.heap.size w w':=by
 obtain⟨rfl,d,f,hc⟩:=h;have h1:=hc (16+4*(t%16)+y) (by omega);clear hc;go_enter func282,ntmps282;go_wp2;obtain⟨e1,e2,e3,e4⟩:=four (gb m (16+4*(t%16)+y)) (f8 ..);refine ao (v:=.agg _) (by simp[results,results282,go_sem]) U ⟨lY (agg4 e1 e2 e3 e4),?_⟩;exact stA (J w) _
theorem zhk(a b c d:Int)(w:World):Calls prog 284 #[.agg #[.int .u8 a,.int .u8 b,.int .u8 c,.int .u8 d]] w λe w'=>e=.returned (.agg #[.int .u8 d,.int .u8 c,.int .u8 b,.int .u8 a])/\Below w.heap.size w w':=by
 go_enter func284,ntmps284;go_wp2;refine ao (v:=.agg _) (by simp[results,results284,go_sem]) U ⟨U,?_⟩;exact stA (stA (J w) _) _
theorem zeD(l b t:Int)(b1 b2 b3:Bool)(y:Int)(w:World)(c:0<=l/\l<=255):Calls prog 283 #[.agg #[.int .i64 l,.int .i64 b,.int .u8 t,.bool b1,.bool b2,.bool b3],.int .i64 y] w λe w'=>e=.returned (.bool (decide (l<=y/\y<l+4)))/\Below w.heap.size w w':=by
 have a:decide (l<=y/\y<l+4)=(decide (l<=y) && decide (y<l+4)):=by simp
 rw[a];clear a;by_cases h1:l<=y
 ·go_enter func283,ntmps283
  go_wp2;go_ret;exact⟨by simp[h1],stA (J w) _⟩
 ·go_enter func283,ntmps283
  go_wp2;go_ret;exact⟨by simp;omega,stA (J w) _⟩
theorem bit0(b:Nat)(h:b<256):(bits .and .u8 (b:Int) 1 != 0)=decide (b%2=1):=by
 rw[show (1:Int)=((1:Nat):Int) from U,ji _ _ (by omega) (by omega),show b &&& 1=b%2 from dq b 1];rcases lG b with e|e <;> rw[e] <;> rfl
theorem bit1(b:Nat)(h:b<256):(bits .and .u8 (b:Int) 2 != 0)=decide (b/2%2=1):=by
 rw[show (2:Int)=((2:Nat):Int) from U,ji _ _ (by omega) (by omega),show b &&& 2=if b.testBit 1 then 2 ^ 1 else 0 from M.and_pow b 1,bX];by_cases e:b/2 ^ 1%2=1 <;> simp[e]
theorem bit7(b:Nat)(h:b<256):(bits .and .u8 (b:Int) 128 != 0)=decide (128<=b):=by
 rw[show (128:Int)=((128:Nat):Int) from U,ji _ _ (by omega) (by omega),show b &&& 128=if b.testBit 7 then 2 ^ 7 else 0 from M.and_pow b 7,bX];by_cases e:b/2 ^ 7%2=1
 ·have:128<=b:=by omega
  simp[e,this]
 ·have:¬ 128<=b:=by omega
  simp[e,this]
theorem tZ(m:List UInt8)(i:Nat):IntKind.i64.wrap (gb m i:Int)=gb m i:=by
 have:=f8 m i;rw[aI];omega
theorem zdC(b:Nat):∀(vs:List Value) (o:Nat) (w:World),(w.setCells b o vs).heap.size=w.heap.size
 | [],o,w=>rfl
 | v::vs,o,w=>(zdC b vs (o+1) _).trans (by simp)
theorem znG{W:World}{b:Nat}{L:List Value}(h:W.rangeAt b 0 L)(hb:b<W.heap.size)(o:Obj):(W.alloc o).rangeAt b 0 L:=λj v a=>((stA (J W) o).cell (p:=⟨b,0+j,none⟩) hb).trans (h j v a)
theorem zfe(w:World)(b:Nat)(a x1 x2 x3:Value)(h:w.rangeAt b 0 [a,x1,x2,x3]):(loadVar 317 ⟨b,0,none⟩).run prog w=.ok (.agg #[a,x1,x2,x3]) w :=
 run_loadVar_mid w b 0 317 [a,x1,x2,x3] _ h underlying317 rfl (by kernel_rfl)
def scS(m:List UInt8)(k:Nat):List Value:=[.int .i64 (lnS m k),.int .i64 (clS m k),.int .u8 (ir m k),.bool (decide (hwS m k%2=1)),.bool (decide (hwS m k/2%2=1)),.bool (decide (128<=hwS m k))]
theorem zce(m:List UInt8)(v:Value)(g o c:Nat)(k:Nat)(w:World)(h:Mm w m v g o c)(a:k<8):Calls prog 250 #[v,.int .i64 k] w λe w'=>e=.returned (.agg #[.int .i64 (lnS m k),.int .i64 (clS m k),.int .u8 (ir m k),.bool (decide (hwS m k%2=1)),.bool (decide (hwS m k/2%2=1)),.bool (decide (128<=hwS m k))])/\Below w.heap.size w w':=by
 obtain⟨rfl,b,d,hc⟩:=h;have f:=hc (128+4*k) (by omega);have h1:=hc (128+4*k+1) (by omega);have h2:=hc (128+4*k+2) (by omega);have h3:=hc (128+4*k+3) (by omega);clear hc;have a0:(0:Int)<=128+4*(k:Int):=by omega
 have a1:(0:Int)<=128+4*(k:Int)+1:=by omega
 have a2:(0:Int)<=128+4*(k:Int)+2:=by omega
 have b0:128+4*(k:Int)<256:=by omega
 have b1:128+4*(k:Int)+1<256:=by omega
 have b2:128+4*(k:Int)+2<256:=by omega
 have t0:(128+4*(k:Int)).toNat=128+4*k:=by omega
 have i:(128+4*(k:Int)+1).toNat=128+4*k+1:=by omega
 have t2:(128+4*(k:Int)+2).toNat=128+4*k+2:=by omega
 have g0:=tZ m (128+4*k);have g1:=tZ m (128+4*k+1);have w1:IntKind.i64.wrap (128+4*(k:Int)+1)=128+4*(k:Int)+1:=by rw[aI];omega
 have w2:IntKind.i64.wrap (128+4*(k:Int)+2)=128+4*(k:Int)+2:=by rw[aI];omega
 go_enter func250,ntmps250;go_wp2;go_region_held3 (λw'=>w'.cell? ⟨g,o+(128+4*k),none⟩=some (.int .u8 (gb m (128+4*k)))/\w'.cell? ⟨g,o+(128+4*k+1),none⟩=some (.int .u8 (gb m (128+4*k+1)))/\w'.cell? ⟨g,o+(128+4*k+2),none⟩=some (.int .u8 (gb m (128+4*k+2))))
  ((go_keep;done))
  (fail)
 all_goals
  go_wp2;refine ao (v:=.agg _) (by simp[results,results250,go_sem] <;> rfl) U ⟨lY ?_,?_⟩
  ·rw[bit0 _ (f8 ..),bit1 _ (f8 ..),bit7 _ (f8 ..)]
   unfold lnS clS ir hwS;rw[show 129+4*k=128+4*k+1 by omega,show 130+4*k=128+4*k+2 by omega,show 131+4*k=128+4*k+3 by omega]
  ·exact(stA (J w) _).drew
theorem zt1(m:List UInt8)(v:Value)(g o c:Nat)(k y:Nat)(w:World)(h:Mm w m v g o c)(t:mG m y k=true)(E:y<8):Calls prog 251 #[.agg #[.int .i64 (lnS m k),.int .i64 (clS m k),.int .u8 (ir m k),.bool (decide (hwS m k%2=1)),.bool (decide (hwS m k/2%2=1)),.bool (decide (128<=hwS m k))],v,.int .i64 y] w λe w'=>e=.returned (.agg #[.int .u8 (sdS m y k 0),.int .u8 (sdS m y k 1),.int .u8 (sdS m y k 2),.int .u8 (sdS m y k 3)])/\Below w.heap.size w w':=by
 unfold mG at t;have t:=cF t;have H:=hid h;have x:ir m k<256:=f8 ..;by_cases n:hwS m k/2%2=1
 ·have j:rwS m y k=3-(y-lnS m k):=by unfold rwS;rw[Q n]
  have f:((rwS m y k:Nat):Int)=3-((y:Int)-(lnS m k:Nat)):=by rw[j];omega
  have p:rwS m y k<4:=by rw[j];omega
  rw[aL n];have u:=hid f;by_cases d:hwS m k%2=1
  ·have a:∀ i,sdS m y k i=td m (ir m k) (3-i) (rwS m y k):=λi=>by unfold sdS;rw[Q d]
   rw[aL d,a,a,a,a];clear h n d a j f;go_enter func251,ntmps251;go_wp2_with (first
    | (go_at_call 282;rw[<- u.out];refine(tY m v g o c (ir m k) (rwS m y k) _ (H.out.kept (stA (stA (J w) _) _)) x p).mono ?_;rintro e w1 ⟨rfl,b⟩;obtain⟨z,f1⟩:=bQ b;have q:w.heap.size+1<w1.heap.size:=ap (by simp) b.size;have z0:=cV q)
    | (go_at_call 284;refine(zhk _ _ _ _ _).mono ?_;rintro e w2 ⟨rfl,l⟩;obtain⟨B,f2⟩:=bQ l;have z2:w1.heap.size<w2.heap.size:=ap (by simp) l.size;have z3:=jm q z2))
   have r:=Pl.fin [.int .u8 (td m (ir m k) 3 (rwS m y k)),.int .u8 (td m (ir m k) 2 (rwS m y k)),.int .u8 (td m (ir m k) 1 (rwS m y k)),.int .u8 (td m (ir m k) 0 (rwS m y k))] (qc _ _ _ 4 (w.heap.size+1) (by simp) U) (stA (stA (J w) _) _) (bn (stA b _) l) (by simp) (by omega);exact ao (v:=.agg _) (by simp only[results,results251];simp;exact zfe _ _ _ _ _ _ r.2) U ⟨U,r.1⟩
  ·have a:∀ i,sdS m y k i=td m (ir m k) (i) (rwS m y k):=λi=>by unfold sdS;rw[G d]
   rw[aF d,a,a,a,a];clear h n d a j f;go_enter func251,ntmps251;go_wp2_with (first
    | (go_at_call 282;rw[<- u.out];refine(tY m v g o c (ir m k) (rwS m y k) _ (H.out.kept (stA (stA (J w) _) _)) x p).mono ?_;rintro e w1 ⟨rfl,b⟩;obtain⟨z,f1⟩:=bQ b;have q:w.heap.size+1<w1.heap.size:=ap (by simp) b.size;have z0:=cV q))
   have r:=Pl.fin [.int .u8 (td m (ir m k) 0 (rwS m y k)),.int .u8 (td m (ir m k) 1 (rwS m y k)),.int .u8 (td m (ir m k) 2 (rwS m y k)),.int .u8 (td m (ir m k) 3 (rwS m y k))] (qc _ _ _ 4 (w.heap.size+1) (by simp) U) (stA (stA (J w) _) _) b (by simp) (by omega);refine Pl.cutB (λW=>Below w.heap.size w W/\W.rangeAt (w.heap.size+1) 0 [.int .u8 (td m (ir m k) 0 (rwS m y k)),.int .u8 (td m (ir m k) 1 (rwS m y k)),.int .u8 (td m (ir m k) 2 (rwS m y k)),.int .u8 (td m (ir m k) 3 (rwS m y k))]) ⟨stA r.1 _,znG r.2 (by rw[zdC];exact q) _⟩ ?_;rintro W ⟨s,n⟩;exact ao (v:=.agg _) (by simp only[results,results251];simp;exact zfe _ _ _ _ _ _ n) U ⟨U,s⟩
 ·have j:rwS m y k=y-lnS m k:=by unfold rwS;rw[G n]
  have f:((rwS m y k:Nat):Int)=(y:Int)-(lnS m k:Nat):=by rw[j];omega
  have p:rwS m y k<4:=by rw[j];omega
  rw[aF n];have u:=hid f;by_cases d:hwS m k%2=1
  ·have a:∀ i,sdS m y k i=td m (ir m k) (3-i) (rwS m y k):=λi=>by unfold sdS;rw[Q d]
   rw[aL d,a,a,a,a];clear h n d a j f;go_enter func251,ntmps251;go_wp2_with (first
    | (go_at_call 282;rw[<- u.out];refine(tY m v g o c (ir m k) (rwS m y k) _ (H.out.kept (stA (stA (J w) _) _)) x p).mono ?_;rintro e w1 ⟨rfl,b⟩;obtain⟨z,f1⟩:=bQ b;have q:w.heap.size+1<w1.heap.size:=ap (by simp) b.size;have z0:=cV q)
    | (go_at_call 284;refine(zhk _ _ _ _ _).mono ?_;rintro e w2 ⟨rfl,l⟩;obtain⟨B,f2⟩:=bQ l;have z2:w1.heap.size<w2.heap.size:=ap (by simp) l.size;have z3:=jm q z2))
   have r:=Pl.fin [.int .u8 (td m (ir m k) 3 (rwS m y k)),.int .u8 (td m (ir m k) 2 (rwS m y k)),.int .u8 (td m (ir m k) 1 (rwS m y k)),.int .u8 (td m (ir m k) 0 (rwS m y k))] (qc _ _ _ 4 (w.heap.size+1) (by simp) U) (stA (stA (J w) _) _) (bn (stA b _) l) (by simp) (by omega);exact ao (v:=.agg _) (by simp only[results,results251];simp;exact zfe _ _ _ _ _ _ r.2) U ⟨U,r.1⟩
  ·have a:∀ i,sdS m y k i=td m (ir m k) (i) (rwS m y k):=λi=>by unfold sdS;rw[G d]
   rw[aF d,a,a,a,a];clear h n d a j f;go_enter func251,ntmps251;go_wp2_with (first
    | (go_at_call 282;rw[<- u.out];refine(tY m v g o c (ir m k) (rwS m y k) _ (H.out.kept (stA (stA (J w) _) _)) x p).mono ?_;rintro e w1 ⟨rfl,b⟩;obtain⟨z,f1⟩:=bQ b;have q:w.heap.size+1<w1.heap.size:=ap (by simp) b.size;have z0:=cV q))
   have r:=Pl.fin [.int .u8 (td m (ir m k) 0 (rwS m y k)),.int .u8 (td m (ir m k) 1 (rwS m y k)),.int .u8 (td m (ir m k) 2 (rwS m y k)),.int .u8 (td m (ir m k) 3 (rwS m y k))] (qc _ _ _ 4 (w.heap.size+1) (by simp) U) (stA (stA (J w) _) _) b (by simp) (by omega);refine Pl.cutB (λW=>Below w.heap.size w W/\W.rangeAt (w.heap.size+1) 0 [.int .u8 (td m (ir m k) 0 (rwS m y k)),.int .u8 (td m (ir m k) 1 (rwS m y k)),.int .u8 (td m (ir m k) 2 (rwS m y k)),.int .u8 (td m (ir m k) 3 (rwS m y k))]) ⟨stA r.1 _,znG r.2 (by rw[zdC];exact q) _⟩ ?_;rintro W ⟨s,n⟩;exact ao (v:=.agg _) (by simp only[results,results251];simp;exact zfe _ _ _ _ _ _ n) U ⟨U,s⟩
theorem zt2:(Tryz.prog.info? 3).map (λi=>(i.zero,i.size,i.bytes))=some (some (.int .i64 0),1,8):=by kernel_rfl
def ics(l:List Nat):List Value:=l.map (λc:Nat=>Value.int .i64 (c:Int))
theorem zo4(a b:List Nat):ics a++ics b=ics (a++b):=by simp[ics]
theorem qR{ops:Array Oper}{rest:List Oper}{o:Oper}{a:Act}{w:World}{aj:Exit->Act->World->Prop}(i:o.guard=none)(s x:Operand)(r:o.op=.call { callee:=.builtin .append,args:=#[s,x],argTypes:=#[222,222] })
 (B:Nat) (v:Value) (xs:List Nat) (t:a.eval s=v) (b:w.ownsRow B 3 1 v xs.length (ics xs)) (g c:Nat) (y:Nat) (z:Int) (E:a.eval x=.slice (some ⟨g,0,none⟩) 1 c) (hc:w.cell? ⟨g,0,none⟩=some (.int .i64 z)) (F:z=y) (I:xs.length<=50000) (hB:B<=w.heap.size)
 (h:∀ v' w',w'.ownsRow B 3 1 v' (xs++[y]).length (ics (xs++[y]))->Below B w w'->wpList prog ops aj rest (a.put o.dst v') w'):wpList prog ops aj (o::rest) a w:=by
 obtain⟨i0,l,m,n,p⟩:=info_parts zt2;subst F;refine kG _ i s x _ r B 3 i0 _ 1 8 underlying222 l m n p U (by omega) v xs.length (ics xs) t b ⟨g,0,none⟩ 1 c [.int .i64 y] E U (λj u f=>?_) (λu q=>?_) (by unfold maxLen;omega) (by omega) hB ?_
 ·match j,f with
  | 0,f =>
   simp only[aY,aP] at f;rw[<- f,addr_add];exact hc
 ·simp only[ch] at q;rw[q];rfl
 ·intro v' w' d e _
  refine h _ w' ?_ ((aW B w).grown e hB (λk H=>(b.lt k H).1));rw[aC,<- zo4];exact d
theorem zrA(m:List UInt8)(y:Nat){j n:Nat}(h:j<=n):gM m y j <+: gM m y n:=by
 unfold gM;obtain⟨d,rfl⟩:=me h;rw[List.range_add,dH];exact⟨_,U⟩
theorem zwr{m:List UInt8}{y j:Nat}(h:j<8)(h2:(gM m y j).length=2)(a:mG m y j=true):(gM m y 8).take 2=gM m y j/\decide (2<(gM m y 8).length)=true:=by
 have h1:=zrA m y (show j<=8 by omega);have h3:=zrA m y (show j+1<=8 by omega);have b:(gM m y (j+1)).length=3:=by rw[tX,Q a];simp[h2]
 refine⟨?_,aL ?_⟩
 ·have:=mg.1 h1
  rw[h2] at this;exact this.symm
 ·have:=h3.length_le
  omega
theorem zrB(m:List UInt8)(y k:Nat):decide ((lnS m k:Int)<=(y:Int)/\(y:Int)<(lnS m k:Int)+4)=mG m y k:=by
 unfold mG;rw[cC];omega
theorem o9(m:List UInt8)(k:Nat):0<=(lnS m k:Int)/\(lnS m k:Int)<=255:=by have:lnS m k<256:=f8 _ _;omega
theorem ziE{w:World}{B:Nat}{v:Value}{n:Nat}{xs:List Value}(h:w.ownsRow B 3 1 v n xs):∃ a c,v=.slice a n c:=by
 rcases h.2 with⟨rfl,rfl⟩|⟨g,b,d,rfl,_⟩
 ·exact⟨_,_,U⟩
 ·exact⟨_,_,U⟩
theorem qv{w w':World}{B:Nat}{v:Value}{n:Nat}{xs:List Value}(h:w.ownsRow B 3 1 v n xs)(hb:Below w.heap.size w w'):w'.ownsRow B 3 1 v n xs:=by
 refine⟨h.1,?_⟩;rcases h.2 with h2|⟨g,a,b,rfl,c,d,r⟩
 ·exact Or.inl h2
 ·exact Or.inr ⟨g,a,b,U,c,(hb.block g (ay.1 d).1).trans d,r⟩
theorem zrC(m:List UInt8)(v:Value)(g o c:Nat)(y:Nat)(w:World)(h:Mm w m v g o c)(T:y<8):Calls prog 249 #[v,.int .i64 y] w λe w'=>∃ s,e=.returned (.tuple #[s,.bool (decide (2<(gM m y 8).length))])/\w'.ownsRow w.heap.size 3 1 s ((gM m y 8).take 2).length (ics ((gM m y 8).take 2))/\Below w.heap.size w w':=by
 have H:=hid h;clear h;go_enter func249,ntmps249;go_wp2;go_loopw [4,7] (λs i wr=>∃ j:Nat,j<=8/\i=.int .i64 j/\(gM m y j).length<=2/\wr.ownsRow w.heap.size 3 1 s (gM m y j).length (ics (gM m y j))/\Below w.heap.size w wr) (λ_ i _=>8-(intOf i).toNat)
 case atStart=>exact⟨0,aU _,U,by simp[gM],⟨U,Or.inl ⟨U,U⟩⟩,J w⟩
 case round =>
  obtain⟨j,V,rfl,h2,d,q⟩:=hrel;have z:=hid d;have l:=hid q;obtain⟨sa,N,rfl⟩:=ziE d;clear d q;by_cases p:j<8
  ·have P:(j:Int)<8:=by omega
   cases k:mG m y j with
   | false =>
    have r:Hid (gM m y (j+1)=gM m y j):=by rw[tX,k];rfl
    have f:=hid k;clear k;go_wp2_with (first
     | (go_at_call 250;refine(zce m v g o c j _ (H.out.kept l.out) p).mono ?_;rintro e w1 ⟨rfl,a⟩)
     | (go_at_call 283;refine(zeD _ _ _ _ _ _ _ _ (o9 m j)).mono ?_;rw[zrB,f.out];rintro e w2 ⟨rfl,b⟩))
    go_round
    case rel=>exact⟨j+1,p,by go_num,by rw[r.out];exact h2,by rw[r.out];exact qv (qv z.out a) b,bn (bn l.out a) b⟩
    case measure=>simp[intOf];omega
   | true =>
    by_cases B:(gM m y j).length=2
    ·have t:=hid (zwr p B k)
     have E:(((gM m y j).length:Int) == 2)=true:=by rw[B];rfl
     have f:=hid k;clear k B;go_wp2_with (first
      | (go_at_call 250;refine(zce m v g o c j _ (H.out.kept l.out) p).mono ?_;rintro e w1 ⟨rfl,a⟩)
      | (go_at_call 283;refine(zeD _ _ _ _ _ _ _ _ (o9 m j)).mono ?_;rw[zrB,f.out];rintro e w2 ⟨rfl,b⟩))
     refine ao (v:=.tuple #[.slice sa (gM m y j).length N,.bool true]) (by simp[results,results249,go_sem]) U ?_;rw[t.out.1,t.out.2];exact⟨_,U,qv (qv z.out a) b,bn (bn l.out a) b⟩
    ·have r:Hid (gM m y (j+1)=gM m y j++[j]):=by rw[tX,k];rfl
     have E:(((gM m y j).length:Int) == 2)=false:=by simp;omega
     have F:Hid ((gM m y j++[j]).length<=2):=by simp only[aC,jH];unfold Hid;omega
     have u:(gM m y j).length<=50000:=by omega
     have I:=hid u;have f:=hid k;clear k B u;go_wp2_with (first
      | (go_at_call 250;refine(zce m v g o c j _ (H.out.kept l.out) p).mono ?_;rintro e w1 ⟨rfl,a⟩)
      | (go_at_call 283;refine(zeD _ _ _ _ _ _ _ _ (o9 m j)).mono ?_;rw[zrB,f.out];rintro e w2 ⟨rfl,b⟩;have L:=hid (qv (qv z.out a) b);have x:=hid (bn (bn l.out a) b))
      | (at_builtin;refine qR (by rfl) _ _ (by rfl) w.heap.size _ (gM m y j) (by rfl) (qv L.out (stA (J w2) _)) w2.heap.size 1 j j (by rfl) (Pl.new _ _ _ _ U) U I.out (ax x.out.size (by simp)) ?_;intro v' w' n M))
     go_round
     case rel=>exact⟨j+1,p,by go_num,by rw[r.out];exact F.out,by rw[r.out];exact n,(stA x.out _).trans M⟩
     case measure=>simp[intOf];omega
  ·have W:¬ (j:Int)<8:=by omega
   have R:j=8:=by omega
   subst R;have t:Hid ((gM m y 8).take 2=gM m y 8/\decide (2<(gM m y 8).length)=false):=⟨cD h2,aF (by omega)⟩
   go_wp2;refine ao (v:=.tuple #[.slice sa (gM m y 8).length N,.bool false]) (by simp[results,results249,go_sem]) U ?_;rw[t.out.1,t.out.2];exact⟨_,U,z.out,l.out⟩
theorem zrD{W:World}{b rb:Nat}{L R:List Value}(hb:Bx W b L)(h:Bx W rb R)(o a d e n:Nat)(ty:TypeId)(i:n=R.length)(l:o+R.length<=L.length)(k:R.length<=a)(h1:∀ v∈R,v.oneCell'=true):(Builtin.copy_ #[26,26] ty #[.slice (some ⟨b,o,none⟩) a d,.slice (some ⟨rb,0,none⟩) n e]).run prog W=.ok (goInt R.length) (W.setCells b o R):=by
 subst i;refine run_copy_cells W 26 26 ty 5 b o a d ⟨rb,0,none⟩ R.length e R underlying26 (by kernel_rfl) (gY k).symm (λj v g=>?_) (λj g=>?_) (λj g=>hb.f _) h1
 ·rw[addr_add];exact h.c j v g
 ·rw[hb.at (o+j) _ (au (by omega))];rfl
theorem nu:(Tryz.prog.info? 66).map (·.size)=some 16:=by kernel_rfl
theorem zrE(f:Nat->Nat):(bf f).toArray.all (·.oneCell')=true:=by
 refine all_oneCell_toArray λv a=>?_
 unfold bf at a;rw[ex] at a;obtain⟨x,_,rfl⟩:=a;rfl
theorem zo7(ai B vs:List Value)(h:vs.length=B.length):gN (ai++B) ai.length vs=ai++vs:=by
 induction vs generalizing ai B with
 | nil=>cases B with
  | nil=>rfl
  | cons b B=>cases h
 | cons v vs a=>cases B with
  | nil=>cases h
  | cons b B =>
   have:=a (ai++[v]) B (by simpa using h);simp only[bp,List.singleton_append,aC,jH] at this;rw[gN,<- this];congr 1;rw[jF _ _ (ak _)];simp
theorem Bx.all{W:World}{b:Nat}{L:List Value}(h:Bx W b L)(vs:List Value)(a:vs.length=L.length):Bx (W.setCells b 0 vs) b vs:=by
 have:=h.puts 0 vs (by omega)
 rwa [show gN L 0 vs=vs from zo7 [] L vs a] at this
theorem oT{ops:Array Oper}{rest:List Oper}{op:Oper}{a:Act}{w:World}{aj:Exit->Act->World->Prop}(d:op.guard=none)(x:Operand)(e:op.op=.load 66 x)(b:Nat)(f:Nat->Nat)(g:a.eval x=.pointer (some ⟨b,0,none⟩))(hb:Bx w b (bf f))
 (h:wpList prog ops aj rest (a.put op.dst (.agg (bf f).toArray)) w):wpList prog ops aj (op::rest) a w :=
 wpList_load_mid d 66 x e b 0 g (bf f) _ hb.c underlying66 rfl (by rw[lh];exact nu) h
theorem ol{ops:Array Oper}{rest:List Oper}{op:Oper}{a:Act}{w:World}{aj:Exit->Act->World->Prop}(c:op.guard=none)(x z:Operand)(d:op.op=.store 66 x z)(b:Nat)(f e:Nat->Nat)(g:a.eval x=.pointer (some ⟨b,0,none⟩))(i:a.eval z=.agg (bf f).toArray)(hb:Bx w b (bf e))
 (h:∀ w',w'=w.setCells b 0 (bf f)->Bx w' b (bf f)->wpList prog ops aj rest (a.put op.dst undef) w'):wpList prog ops aj (op::rest) a w:=by
 refine wpList_store_mid c 66 x z d b 0 (bf f).toArray g i ?_ (by simp only[gk,lh];exact nu) (zrE f) ?_
 ·simp only[gk,lh];exact hb.there 0 16 (by rw[lh];omega)
 ·exact h _ U (hb.all _ (by rw[lh,lh]))
theorem oU{W:World}{b:Nat}{f:Nat->Nat}(h:Bx W b (bf f)):(loadVar 66 ⟨b,0,none⟩).run prog W=.ok (.agg (bf f).toArray) W :=
 run_loadVar_mid W b 0 66 _ _ h.c underlying66 rfl (by rw[lh];exact nu)
theorem zo8(m:List UInt8)(Y n:Nat)(c:n<4):gN (bf (λX=>if X<4*n then g16 m Y X else 0)) (4*n) [.int .u8 (td m (gb m (Y/4*4+n)) 0 (Y%4)),.int .u8 (td m (gb m (Y/4*4+n)) 1 (Y%4)),.int .u8 (td m (gb m (Y/4*4+n)) 2 (Y%4)),.int .u8 (td m (gb m (Y/4*4+n)) 3 (Y%4))]=bf (λX=>if X<4*(n+1) then g16 m Y X else 0):=by
 simp only[gN];rw[ry _ _ _ (by omega),ry _ _ _ (by omega),ry _ _ _ (by omega),ry _ _ _ (by omega)];apply sR;intro X d;have h:∀ i,i<4->td m (gb m (Y/4*4+n)) i (Y%4)=g16 m Y (4*n+i):=λi hi=>by
  unfold g16;rw[show (4*n+i)/4=n by omega,show (4*n+i)%4=i by omega]
 rw[h 0 (by omega),h 1 (by omega),h 2 (by omega),h 3 (by omega)];by_cases e3:X=4*n+1+1+1
 ·subst e3;simp;intro;omega
 ·by_cases e2:X=4*n+1+1
  ·subst e2;simp;intro;omega
  ·by_cases e1:X=4*n+1
   ·subst e1;simp;intro;omega
   ·by_cases b:X=4*n
    ·subst b
     rw[G e3,G e2,G e1,Q U,Q (by omega)];rfl
    ·simp only[G e3,G e2,G e1,G b]
     by_cases a:X<4*n
     ·rw[Q a,Q (by omega)]
     ·rw[G a,G (by omega)]
structure GdW (w : World) (m : List UInt8) (Y n : Nat) (W : World) : Prop where
 low:Below w.heap.size w W
 r:Bx W w.heap.size (bf λ_=>0)
 g:Bx W (w.heap.size+1) (bf λX=>if X<4*n then g16 m Y X else 0)
section
variable {w W w1 : World} {m : List UInt8} {Y n : Nat}
theorem GdW.kept(h:GdW w m Y n W)(hb:Below W.heap.size W w1):GdW w m Y n w1:=⟨bn h.low hb,h.r.kept hb,h.g.kept hb⟩
theorem GdW.over(h:GdW w m Y n W)(o:Obj):GdW w m Y n (W.alloc o):=h.kept (stA (J W) o)
theorem GdW.drew(h:GdW w m Y n W):GdW w m Y n W.drew:=⟨h.low.drew,h.r.drew,h.g.drew⟩
theorem GdW.put(h:GdW w m Y n W)(a:n<4):GdW w m Y (n+1) (W.setCells (w.heap.size+1) (4*n) [.int .u8 (td m (gb m (Y/4*4+n)) 0 (Y%4)),.int .u8 (td m (gb m (Y/4*4+n)) 1 (Y%4)),.int .u8 (td m (gb m (Y/4*4+n)) 2 (Y%4)),.int .u8 (td m (gb m (Y/4*4+n)) 3 (Y%4))]) :=
 ⟨Bl.puts h.low (by omega) _,h.r.fars (by omega) _ _,zo8 m Y n a ▸ h.g.puts (4*n) _ (by rw[lh];simp;omega)⟩
end
structure SnW (w : World) (m : List UInt8) (y x bs : Nat) (W : World) : Prop where
 low:Below w.heap.size w W
 r:Bx W w.heap.size (bf λ_=>0)
 g:Bx W (w.heap.size+1) (bf (g16 m ((y+gb m 169)%16)))
 s:Bx W bs (bf λi=>if i<x then gd m y i else 0)
 far:w.heap.size+1<bs
theorem SnW.put{w W:World}{m:List UInt8}{y x bs:Nat}(h:SnW w m y x bs W)(b:x<16):SnW w m y (x+1) bs (W.setCell ⟨bs,x,none⟩ (.int .u8 (g16 m ((y+gb m 169)%16) ((x+gb m 168)%16)))):=by
 have c:=h.far;refine⟨Bl.set h.low (by omega) _,h.r.far (by omega) _,h.g.far (by omega) _,?_,c⟩;have:=h.s.set x (.int .u8 (gd m y x)) (by rw[lh];exact b);rw[ry _ _ _ b] at this
 rwa [sR (g:=λi=>if i<x+1 then gd m y i else 0) (λi hi=>?_)] at this
 by_cases e:i=x
 ·subst e;simp
 ·simp only[G e]
  by_cases a:i<x
  ·rw[Q a,Q (by omega)]
  ·rw[G a,G (by omega)]
theorem zo9(m:List UInt8)(v:Value)(g o c:Nat)(y:Nat)(w:World)(h:Mm w m v g o c)(hy:y<8):Calls prog 248 #[v,.int .i64 y] w λe w'=>e=.returned (.agg (bf (gd m y)).toArray)/\Below w.heap.size w w':=by
 have H:=hid h;obtain⟨rfl,u,hz,hc⟩:=h;have h1:=hc 169 (by omega);have hb:=f8 m 169;obtain⟨Y,j⟩:∃ Y,Y=(y+gb m 169)%16:=⟨_,U⟩
 have T:((y:Int)+(gb m 169:Nat))%16=(Y:Int):=by omega
 have HY:=hid j;have HE:=hid T;have hYl:Y<16:=by omega
 clear hc T;go_enter func248,ntmps248;go_wp2;rw[HE.out];clear j hb h1 u;go_loopw [18] (λi wr=>∃ n:Nat,n<=4/\i=.int .i64 n/\GdW w m Y n wr) (λi _=>4-(intOf i).toNat)
 case atStart=>exact⟨0,aU _,U,stA (stA (J w) _) _,(Bx.new w (bf λ_=>0) _ U).over _,Bx.new _ (bf λ_=>0) _ (by simp)⟩
 case round =>
  obtain⟨n,hn,rfl,B⟩:=hrel;have d:=hid B;have V:=hid (H.out.kept B.low);clear B;by_cases h4:n<4
  ·have h4':(n:Int)<4:=by omega
   have hc:=V.out.c (Y/4*4+n) (by omega);have E:=f8 m (Y/4*4+n);have ym:Y%4<4:=gE _ (by decide);go_wp2_with (first
    | (go_at_call 282;refine(tY m _ g o c (gb m (Y/4*4+n)) (Y%4) _ V.out E ym).mono ?_;rintro e w1 ⟨rfl,k⟩))
   obtain⟨F,hcp,l⟩:∃ F,(Builtin.copy_ #[26,26] 3 #[.slice (some ⟨w.heap.size+1,4*n,none⟩) (16-4*n) (16-4*n),.slice (some ⟨w1.heap.size,0,none⟩) 4 4]).run prog (w1.alloc (.cells #[.int .u8 (td m (gb m (Y/4*4+n)) 0 (Y%4)),.int .u8 (td m (gb m (Y/4*4+n)) 1 (Y%4)),.int .u8 (td m (gb m (Y/4*4+n)) 2 (Y%4)),.int .u8 (td m (gb m (Y/4*4+n)) 3 (Y%4))] 317)).drew=.ok (.int .i64 4) F/\GdW w m Y (n+1) F :=
    ⟨_,zrD ((d.out.kept k).over _).drew.g (Bx.new w1 [.int .u8 (td m (gb m (Y/4*4+n)) 0 (Y%4)),.int .u8 (td m (gb m (Y/4*4+n)) 1 (Y%4)),.int .u8 (td m (gb m (Y/4*4+n)) 2 (Y%4)),.int .u8 (td m (gb m (Y/4*4+n)) 3 (Y%4))] 317 U).drew (4*n) _ _ _ _ _ U (by rw[lh];simp;omega) (by simp;omega) (by simp[Value.oneCell']),((d.out.kept k).over _).drew.put h4⟩
   have I:=hid l;clear l;have q0:(0:Int)<=(n:Int)*4:=by omega
   have q1:(n:Int)*4<=16:=by omega
   have q2:((n:Int)*4).toNat=4*n:=by omega
   have q3:IntKind.i64.wrap ((n:Int)*4)=(n:Int)*4:=by rw[aI];omega
   have q4:¬ (16=4*n):=by omega
   go_region
   go_wp2;exact⟨⟨n+1,h4,by go_num,I.out⟩,by simp[intOf];omega⟩
  ·have h9:¬ (n:Int)<4:=by omega
   have e4:n=4:=by omega
   subst e4;have j:Y=(y+gb m 169)%16:=HY.out;have Z:=f8 m 168;have p:Hid (SnW w m y 0 wr.heap.size (wr.alloc (.cells (bf λ_=>0).toArray 66))):=by
    refine⟨stA d.out.low _,d.out.r.over _,?_,Bx.new wr (bf λ_=>0) _ U,d.out.g.z⟩;have:=d.out.g.over (.cells (bf λ_=>0).toArray 66);rw[j] at this
    rwa [sR (λX hX=>Q (show X<4*4 by omega))] at this
   clear h4 hn h9 j;go_wp2;go_loopw [39] (λi W=>∃ x:Nat,x<=16/\i=.int .i64 x/\SnW w m y x wr.heap.size W) (λi _=>16-(intOf i).toNat)
   case atStart=>exact⟨0,aU _,U,p.out⟩
   case round =>
    obtain⟨x,hx,rfl,hS⟩:=hrel;have a:=hid hS;clear hS p;by_cases b:x<16
    ·have h16':(x:Int)<16:=by omega
     have c0:=(H.out.kept a.out.low).c 168 (by omega);have c1:=a.out.g.at ((x+gb m 168)%16) _ (oy _ (gE _ (by decide)));have c2:=a.out.s.at x _ (oy _ b);have f2:=a.out.s.f x;go_wp2;exact⟨⟨x+1,b,by go_num,a.out.put b⟩,by simp[intOf];omega⟩
    ·have h17:¬ (x:Int)<16:=by omega
     have L:x=16:=by omega
     subst L;have M:=a.out.s;rw[sR (λX hX=>Q hX)] at M;have N:=hid M;clear M;go_wp2_with (first
      | (refine oT U _ U _ _ U N.out ?_)
      | (refine ol U _ _ U w.heap.size (gd m y) _ U U a.out.r ?_;rintro w' q t;have P:=hid t;have R:=hid q;clear t q))
     have u:=oU P.out;refine ao (v:=.agg (bf (gd m y)).toArray) ?_ U ⟨U,?_⟩
     ·simp only[results,results248]
      simp;exact u
     ·rw[R.out];exact Bl.puts a.out.low (ak _) _
theorem zws(f:Nat->Nat)(w:World):(Instr.index 66 (.agg (bf f).toArray) (.int .i64 0)).run prog w=.ok (.int .u8 (f 0)) w:=by kernel_rfl
theorem zwt(f:Nat->Nat)(w:World):(Instr.index 66 (.agg (bf f).toArray) (.int .i64 1)).run prog w=.ok (.int .u8 (f 1)) w:=by kernel_rfl
theorem zwu(f:Nat->Nat)(w:World):(Instr.index 66 (.agg (bf f).toArray) (.int .i64 2)).run prog w=.ok (.int .u8 (f 2)) w:=by kernel_rfl
theorem zwv(f:Nat->Nat)(w:World):(Instr.index 66 (.agg (bf f).toArray) (.int .i64 3)).run prog w=.ok (.int .u8 (f 3)) w:=by kernel_rfl
theorem zww(f:Nat->Nat)(w:World):(Instr.index 66 (.agg (bf f).toArray) (.int .i64 4)).run prog w=.ok (.int .u8 (f 4)) w:=by kernel_rfl
theorem zwx(f:Nat->Nat)(w:World):(Instr.index 66 (.agg (bf f).toArray) (.int .i64 5)).run prog w=.ok (.int .u8 (f 5)) w:=by kernel_rfl
theorem zwy(f:Nat->Nat)(w:World):(Instr.index 66 (.agg (bf f).toArray) (.int .i64 6)).run prog w=.ok (.int .u8 (f 6)) w:=by kernel_rfl
theorem zwz(f:Nat->Nat)(w:World):(Instr.index 66 (.agg (bf f).toArray) (.int .i64 7)).run prog w=.ok (.int .u8 (f 7)) w:=by kernel_rfl
theorem zwA(f:Nat->Nat)(w:World):(Instr.index 66 (.agg (bf f).toArray) (.int .i64 8)).run prog w=.ok (.int .u8 (f 8)) w:=by kernel_rfl
theorem zwB(f:Nat->Nat)(w:World):(Instr.index 66 (.agg (bf f).toArray) (.int .i64 9)).run prog w=.ok (.int .u8 (f 9)) w:=by kernel_rfl
theorem zt3(f:Nat->Nat)(w:World):(Instr.index 66 (.agg (bf f).toArray) (.int .i64 10)).run prog w=.ok (.int .u8 (f 10)) w:=by kernel_rfl
theorem zt4(f:Nat->Nat)(w:World):(Instr.index 66 (.agg (bf f).toArray) (.int .i64 11)).run prog w=.ok (.int .u8 (f 11)) w:=by kernel_rfl
theorem zt5(f:Nat->Nat)(w:World):(Instr.index 66 (.agg (bf f).toArray) (.int .i64 12)).run prog w=.ok (.int .u8 (f 12)) w:=by kernel_rfl
theorem zt6(f:Nat->Nat)(w:World):(Instr.index 66 (.agg (bf f).toArray) (.int .i64 13)).run prog w=.ok (.int .u8 (f 13)) w:=by kernel_rfl
theorem zt7(f:Nat->Nat)(w:World):(Instr.index 66 (.agg (bf f).toArray) (.int .i64 14)).run prog w=.ok (.int .u8 (f 14)) w:=by kernel_rfl
theorem zt8(f:Nat->Nat)(w:World):(Instr.index 66 (.agg (bf f).toArray) (.int .i64 15)).run prog w=.ok (.int .u8 (f 15)) w:=by kernel_rfl
theorem xo(f:Nat->Nat)(x:Nat)(h:x<16)(w:World):(Instr.index 66 (.agg (bf f).toArray) (.int .i64 (x:Nat))).run prog w=.ok (.int .u8 (f x)) w:=by
 have a:x=0 \/ x=1 \/ x=2 \/ x=3 \/ x=4 \/ x=5 \/ x=6 \/ x=7 \/ x=8 \/ x=9 \/ x=10 \/ x=11 \/ x=12 \/ x=13 \/ x=14 \/ x=15:=by omega
 rcases a with rfl|rfl|rfl|rfl|rfl|rfl|rfl|rfl|rfl|rfl|rfl|rfl|rfl|rfl|rfl|rfl
 ·exact zws f w
 ·exact zwt f w
 ·exact zwu f w
 ·exact zwv f w
 ·exact zww f w
 ·exact zwx f w
 ·exact zwy f w
 ·exact zwz f w
 ·exact zwA f w
 ·exact zwB f w
 ·exact zt3 f w
 ·exact zt4 f w
 ·exact zt5 f w
 ·exact zt6 f w
 ·exact zt7 f w
 ·exact zt8 f w
theorem zye(f:Nat->Nat)(w:World):(Instr.index 317 (.agg #[.int .u8 (f 0),.int .u8 (f 1),.int .u8 (f 2),.int .u8 (f 3)]) (.int .i64 0)).run prog w=.ok (.int .u8 (f 0)) w:=by kernel_rfl
theorem zyf(f:Nat->Nat)(w:World):(Instr.index 317 (.agg #[.int .u8 (f 0),.int .u8 (f 1),.int .u8 (f 2),.int .u8 (f 3)]) (.int .i64 1)).run prog w=.ok (.int .u8 (f 1)) w:=by kernel_rfl
theorem zyg(f:Nat->Nat)(w:World):(Instr.index 317 (.agg #[.int .u8 (f 0),.int .u8 (f 1),.int .u8 (f 2),.int .u8 (f 3)]) (.int .i64 2)).run prog w=.ok (.int .u8 (f 2)) w:=by kernel_rfl
theorem zyh(f:Nat->Nat)(w:World):(Instr.index 317 (.agg #[.int .u8 (f 0),.int .u8 (f 1),.int .u8 (f 2),.int .u8 (f 3)]) (.int .i64 3)).run prog w=.ok (.int .u8 (f 3)) w:=by kernel_rfl
theorem idx4(f:Nat->Nat)(x:Nat)(h:x<4)(w:World):(Instr.index 317 (.agg #[.int .u8 (f 0),.int .u8 (f 1),.int .u8 (f 2),.int .u8 (f 3)]) (.int .i64 (x:Nat))).run prog w=.ok (.int .u8 (f x)) w:=by
 have a:x=0 \/ x=1 \/ x=2 \/ x=3:=by omega
 rcases a with rfl|rfl|rfl|rfl
 ·exact zye f w
 ·exact zyf f w
 ·exact zyg f w
 ·exact zyh f w
structure P0W (w : World) (m : List UInt8) (y bg bo : Nat) (fo : Nat -> Nat) (W : World) : Prop where
 low:Below w.heap.size w W
 r:Bx W w.heap.size (bf λ_=>0)
 g:Bx W bg (bf (gd m y))
 o:Bx W bo (bf fo)
 d1:w.heap.size<bg
 d2:bg<bo
structure PxW (w : World) (m : List UInt8) (y bg bo bt : Nat) (fo : Nat -> Nat) (ft : Nat -> Bool) (W : World) : Prop extends P0W w m y bg bo fo W where
 t:Bx W bt (gS ft)
 d3:bo<bt
section
variable {w W w1 : World} {m : List UInt8} {y bg bo bt : Nat} {fo fo' : Nat -> Nat} {ft ft' : Nat -> Bool}
theorem P0W.kept(h:P0W w m y bg bo fo W)(hb:Below W.heap.size W w1):P0W w m y bg bo fo w1:=⟨bn h.low hb,h.r.kept hb,h.g.kept hb,h.o.kept hb,h.d1,h.d2⟩
theorem P0W.over(h:P0W w m y bg bo fo W)(o:Obj):P0W w m y bg bo fo (W.alloc o):=h.kept (stA (J W) o)
theorem P0W.congr(h:P0W w m y bg bo fo W)(e:∀ x,x<16->fo x=fo' x):P0W w m y bg bo fo' W:=⟨h.low,h.r,h.g,sR e ▸ h.o,h.d1,h.d2⟩
theorem P0W.put(h:P0W w m y bg bo fo W)(x n:Nat)(a:x<16):P0W w m y bg bo (λi=>if i=x then n else fo i) (W.setCell ⟨bo,x,none⟩ (.int .u8 n)):=by
 have h1:=h.d1;have h2:=h.d2;exact⟨Bl.set h.low (by omega) _,h.r.far (by omega) _,h.g.far (by omega) _,ry fo x n a ▸ h.o.set x (.int .u8 n) (by rw[lh];exact a),h1,h2⟩
theorem PxW.kept(h:PxW w m y bg bo bt fo ft W)(hb:Below W.heap.size W w1):PxW w m y bg bo bt fo ft w1:=⟨h.toP0W.kept hb,h.t.kept hb,h.d3⟩
theorem PxW.over(h:PxW w m y bg bo bt fo ft W)(o:Obj):PxW w m y bg bo bt fo ft (W.alloc o):=h.kept (stA (J W) o)
theorem PxW.congr(h:PxW w m y bg bo bt fo ft W)(e:∀ x,x<16->fo x=fo' x)(a:∀ x,x<16->ft x=ft' x):PxW w m y bg bo bt fo' ft' W:=⟨h.toP0W.congr e,zjX a ▸ h.t,h.d3⟩
theorem PxW.take(h:PxW w m y bg bo bt fo ft W)(x:Nat)(a:x<16):PxW w m y bg bo bt fo (λi=>if i=x then true else ft i) (W.setCell ⟨bt,x,none⟩ (.bool true)):=by
 have h1:=h.d1;have h2:=h.d2;have h3:=h.d3;exact⟨⟨Bl.set h.low (by omega) _,h.r.far (by omega) _,h.g.far (by omega) _,h.o.far (by omega) _,h1,h2⟩,zo3 ft x true a ▸ h.t.set x (.bool true) (by rw[zdh];exact a),h3⟩
theorem PxW.put(h:PxW w m y bg bo bt fo ft W)(x n:Nat)(a:x<16):PxW w m y bg bo bt (λi=>if i=x then n else fo i) ft (W.setCell ⟨bo,x,none⟩ (.int .u8 n)):=by
 have h3:=h.d3;exact⟨h.toP0W.put x n a,h.t.far (by omega) _,h3⟩
end
def kS(m:List UInt8)(y:Nat)(ks:List Nat)(k i x:Nat):Nat:=if clS m k<=x/\x<clS m k+i then kh m y (ks++[k]) x else kh m y ks x
def kT(m:List UInt8)(y:Nat)(ks:List Nat)(k i x:Nat):Bool:=if clS m k<=x/\x<clS m k+i then kr m y (ks++[k]) x else kr m y ks x
section
variable {m : List UInt8} {y : Nat} {ks : List Nat} {k i : Nat}
theorem zt9(x:Nat):kS m y ks k 0 x=kh m y ks x:=by unfold kS;rw[G (by omega)]
theorem zua(x:Nat):kT m y ks k 0 x=kr m y ks x:=by unfold kT;rw[G (by omega)]
theorem nL(hi:i<4):sxS m y k (clS m k+i)=sdS m y k i:=by
 unfold sxS;rw[Q (by omega),show clS m k+i-clS m k=i by omega]
theorem znH{x:Nat}(h:¬ (clS m k<=x/\x<clS m k+4)):sxS m y k x=0:=by unfold sxS;rw[G h]
theorem zub(x:Nat):kS m y ks k 4 x=kh m y (ks++[k]) x:=by
 unfold kS;split
 ·rfl
 ·rename_i h
  exact(zec (znH h)).symm
theorem zuc(x:Nat):kT m y ks k 4 x=kr m y (ks++[k]) x:=by
 unfold kT;split
 ·rfl
 ·rename_i h
  rw[sQ,znH h];simp
theorem t6(x:Nat):kS m y ks k (i+1) x=if x=clS m k+i then kh m y (ks++[k]) x else kS m y ks k i x:=by
 unfold kS;by_cases e:x=clS m k+i
 ·rw[Q e,Q (by omega)]
 ·rw[G e]
  by_cases h:clS m k<=x/\x<clS m k+i
  ·rw[Q h,Q (by omega)]
  ·rw[G h,G (by omega)]
theorem t7(x:Nat):kT m y ks k (i+1) x=if x=clS m k+i then kr m y (ks++[k]) x else kT m y ks k i x:=by
 unfold kT;by_cases e:x=clS m k+i
 ·rw[Q e,Q (by omega)]
 ·rw[G e]
  by_cases h:clS m k<=x/\x<clS m k+i
  ·rw[Q h,Q (by omega)]
  ·rw[G h,G (by omega)]
theorem zrF:kS m y ks k i (clS m k+i)=kh m y ks (clS m k+i):=by unfold kS;rw[G (by omega)]
theorem zrG:kT m y ks k i (clS m k+i)=kr m y ks (clS m k+i):=by unfold kT;rw[G (by omega)]
theorem zud(h:16<=clS m k+i):(∀ x,x<16->kS m y ks k i x=kS m y ks k (i+1) x)/\(∀ x,x<16->kT m y ks k i x=kT m y ks k (i+1) x) :=
 ⟨λx a=>by rw[t6,G (by omega)],λx a=>by rw[t7,G (by omega)]⟩
theorem zwC(hi:i<4)(h:sdS m y k i=0):(∀ x,x<16->kS m y ks k i x=kS m y ks k (i+1) x)/\(∀ x,x<16->kT m y ks k i x=kT m y ks k (i+1) x):=by
 have a:sxS m y k (clS m k+i)=0:=by rw[nL hi];exact h
 refine⟨λx b=>?_,λx b=>?_⟩
 ·rw[t6]
  by_cases e:x=clS m k+i
  ·rw[Q e,e,zrF,zec a]
  ·rw[G e]
 ·rw[t7]
  by_cases e:x=clS m k+i
  ·rw[Q e,e,zrG,sQ,a];simp
  ·rw[G e]
theorem zue(h:kr m y ks (clS m k+i)=true):(∀ x,x<16->kS m y ks k i x=kS m y ks k (i+1) x)/\(∀ x,x<16->kT m y ks k i x=kT m y ks k (i+1) x):=by
 refine⟨λx a=>?_,λx a=>?_⟩
 ·rw[t6]
  by_cases e:x=clS m k+i
  ·rw[Q e,e,zrF,zgp h]
  ·rw[G e]
 ·rw[t7]
  by_cases e:x=clS m k+i
  ·rw[Q e,e,zrG,sQ,h];simp
  ·rw[G e]
theorem zrH(hi:i<4)(h:sdS m y k i≠0)(b:kr m y ks (clS m k+i)=false)(hb:128<=hwS m k)(c:gd m y (clS m k+i)≠0):(∀ x,x<16->kS m y ks k i x=kS m y ks k (i+1) x)/\(∀ x,x<16->(if x=clS m k+i then true else kT m y ks k i x)=kT m y ks k (i+1) x):=by
 have a:sxS m y k (clS m k+i)≠0:=by rw[nL hi];exact h
 refine⟨λx d=>?_,λx d=>?_⟩
 ·rw[t6]
  by_cases e:x=clS m k+i
  ·rw[Q e,e,zrF,zeW b a,Q ⟨hb,c⟩]
  ·rw[G e]
 ·rw[t7]
  by_cases e:x=clS m k+i
  ·rw[Q e,Q e,e,sQ];simp[a]
  ·rw[G e,G e]
theorem zrI(hi:i<4)(h:sdS m y k i≠0)(b:kr m y ks (clS m k+i)=false)(hb:¬ (128<=hwS m k/\gd m y (clS m k+i)≠0)):(∀ x,x<16->(if x=clS m k+i then gb m (164+sdS m y k i) else kS m y ks k i x)=kS m y ks k (i+1) x)/\(∀ x,x<16->(if x=clS m k+i then true else kT m y ks k i x)=kT m y ks k (i+1) x):=by
 have a:sxS m y k (clS m k+i)≠0:=by rw[nL hi];exact h
 refine⟨λx c=>?_,λx c=>?_⟩
 ·rw[t6]
  by_cases e:x=clS m k+i
  ·rw[Q e,Q e,e,zeW b a,G hb,nL hi]
  ·rw[G e,G e]
 ·rw[t7]
  by_cases e:x=clS m k+i
  ·rw[Q e,Q e,e,sQ];simp[a]
  ·rw[G e,G e]
end
structure Lst (W : World) (gl : Nat) (ks : List Nat) : Prop where
 z:gl<W.heap.size
 c:∀ j k,ks[j]?=some k->W.cell? ⟨gl,j,none⟩=some (.int .i64 (k:Nat))
theorem Lst.kept{W w1:World}{gl:Nat}{ks:List Nat}(h:Lst W gl ks)(hb:Below W.heap.size W w1):Lst w1 gl ks:=⟨ap h.z hb.size,λj k a=>(hb.cell (p:=⟨gl,j,none⟩) h.z).trans (h.c j k a)⟩
theorem Lst.far{W:World}{gl:Nat}{ks:List Nat}(h:Lst W gl ks){b o:Nat}(a:b≠gl)(v:Value):Lst (W.setCell ⟨b,o,none⟩ v) gl ks:=⟨by simpa using h.z,λj k d=>(World.cell?_setCell_far W _ _ v a).trans (h.c j k d)⟩
theorem Lst.of{W:World}{B:Nat}{v:Value}{ks:List Nat}(h:W.ownsRow B 3 1 v ks.length (ics ks))(i:ks≠[]):∃ gl c,v=.slice (some ⟨gl,0,none⟩) ks.length c/\B<=gl/\Lst W gl ks:=by
 rcases h.2 with⟨rfl,h2⟩|⟨g,b,a,rfl,hb,d,n,o,p,l⟩
 ·exact absurd (bv.1 h2) i
 ·refine⟨g,b,U,hb,(ay.1 d).1,λj k f=>?_⟩
  have m:=(aA.1 f).1;rw[Lib.cell_of_heap d j];have e:a[j]?=(a.toList.take (ks.length*1))[j]?:=by rw[dI,Q (by omega)];simp
  rw[e,l,ics,aX,f];rfl
theorem P0W.init{w w1 w2:World}{m:List UInt8}{y:Nat}{t:TypeId}(a:Below (w.alloc (.cells (bf λ_=>0).toArray t)).heap.size (w.alloc (.cells (bf λ_=>0).toArray t)) w1)
 (b:w2=(w1.alloc (.cells (bf λ_=>0).toArray t)).setCells w1.heap.size 0 (bf (gd m y))) (hB:Bx w2 w1.heap.size (bf (gd m y))) :
 P0W w m y w1.heap.size w2.heap.size (λi=>if i<0 then gb m (160+gd m y i) else 0) (w2.alloc (.cells (bf λ_=>0).toArray t)):=by
 have c:w.heap.size<w1.heap.size:=ap (by simp) a.size;refine⟨stA ?_ _,Bx.over ?_ _,hB.over _,?_,c,hB.z⟩
 ·rw[b];exact Bl.puts (stA (bn (stA (J w) _) a) _) (by omega) _
 ·rw[b];exact(((Bx.new w (bf λ_=>0) t U).kept a).over _).fars (by omega) _ _
 ·exact Bx.new w2 (bf λ_=>0) t U
theorem P0W.step{w W:World}{m:List UInt8}{y bg bo x:Nat}(h:P0W w m y bg bo (λi=>if i<x then gb m (160+gd m y i) else 0) W)(b:x<16):P0W w m y bg bo (λi=>if i<x+1 then gb m (160+gd m y i) else 0) (W.setCell ⟨bo,x,none⟩ (.int .u8 (gb m (160+gd m y x)))):=by
 refine(h.put x _ b).congr λi hi=>?_
 by_cases e:i=x
 ·subst e;simp
 ·simp only[G e]
  by_cases a:i<x
  ·rw[Q a,Q (by omega)]
  ·rw[G a,G (by omega)]
structure InW (w : World) (m : List UInt8) (y bg bo bt gl bs : Nat) (ks pre : List Nat) (k i : Nat) (W : World) : Prop extends PxW w m y bg bo bt (kS m y pre k i) (kT m y pre k i) W where
 s:Bx W bs (scS m k)
 d4:bt<bs
 l:Lst W gl ks
 d5:bt<gl
section
variable {w W w1 : World} {m : List UInt8} {y bg bo bt gl bs : Nat} {ks pre : List Nat} {k i : Nat}
theorem InW.same(h:InW w m y bg bo bt gl bs ks pre k i W)(e:(∀ x,x<16->kS m y pre k i x=kS m y pre k (i+1) x)/\(∀ x,x<16->kT m y pre k i x=kT m y pre k (i+1) x)):InW w m y bg bo bt gl bs ks pre k (i+1) W :=
 ⟨h.toPxW.congr e.1 e.2,h.s,h.d4,h.l,h.d5⟩
theorem InW.hid(h:InW w m y bg bo bt gl bs ks pre k i W)(a:clS m k+i<16)(e:(∀ x,x<16->kS m y pre k i x=kS m y pre k (i+1) x)/\(∀ x,x<16->(if x=clS m k+i then true else kT m y pre k i x)=kT m y pre k (i+1) x)):InW w m y bg bo bt gl bs ks pre k (i+1) (W.setCell ⟨bt,clS m k+i,none⟩ (.bool true)):=by
 have h4:=h.d4;have b:=h.d5;exact⟨(h.toPxW.take _ a).congr e.1 e.2,h.s.far (by omega) _,h4,h.l.far (by omega) _,b⟩
theorem InW.seen(h:InW w m y bg bo bt gl bs ks pre k i W)(a:clS m k+i<16)(e:(∀ x,x<16->(if x=clS m k+i then gb m (164+sdS m y k i) else kS m y pre k i x)=kS m y pre k (i+1) x)/\(∀ x,x<16->(if x=clS m k+i then true else kT m y pre k i x)=kT m y pre k (i+1) x)):InW w m y bg bo bt gl bs ks pre k (i+1) ((W.setCell ⟨bt,clS m k+i,none⟩ (.bool true)).setCell ⟨bo,clS m k+i,none⟩ (.int .u8 (gb m (164+sdS m y k i)))):=by
 have h3:=h.d3;have h4:=h.d4;have b:=h.d5;exact⟨((h.toPxW.take _ a).put _ _ a).congr e.1 e.2,(h.s.far (by omega) _).far (by omega) _,h4,(h.l.far (by omega) _).far (by omega) _,b⟩
end
theorem zpa(m:List UInt8)(v:Value)(g o c:Nat)(y:Nat)(w:World)(h:Mm w m v g o c)(hy:y<8):Calls prog 202 #[v,.int .i64 y] w λe w'=>e=.returned (.agg (bf (px m y)).toArray)/\Below w.heap.size w w':=by
 have H:=hid h;obtain⟨rfl,hl,hz,hc⟩:=h;obtain⟨ks,d⟩:∃ ks,ks=(gM m y 8).take 2:=⟨_,U⟩
 have HKs:Hid (∀ k∈ks,k<8/\mG m y k=true):=λk R=>by rw[d] at R;exact⟨zvd (dU R),zve (dU R)⟩
 have HPx:px m y=kh m y ks:=by funext x;rw[d];rfl
 have klen:ks.length<=2:=by rw[d,bu];omega
 rw[HPx];have HKe:=hid d;clear hc d HPx;go_enter func202,ntmps202;go_wp2_with (first
  | (go_at_call 248;refine(zo9 m _ g o c y _ (H.out.kept (stA (J w) _)) hy).mono ?_;rintro e w1 ⟨rfl,hb1⟩)
  | (refine ol U _ _ U w1.heap.size (gd m y) (λ_=>0) U U (Bx.new w1 (bf λ_=>0) _ U) ?_;rintro w2 hw2 hB2;have X:=hid hB2;have HW2:=hid hw2;clear hB2 hw2)
  | (refine oT U _ U w1.heap.size (gd m y) U (X.out.over _) ?_))
 have HP0:Hid (P0W w m y w1.heap.size w2.heap.size (λi=>if i<0 then gb m (160+gd m y i) else 0) (w2.alloc (.cells (bf λ_=>0).toArray 66))):=P0W.init hb1 HW2.out X.out;clear hb1 HW2 X;go_loopw [22] (λi wr=>∃ x:Nat,x<=16/\i=.int .i64 x/\P0W w m y w1.heap.size w2.heap.size (λi=>if i<x then gb m (160+gd m y i) else 0) wr) (λi _=>16-(intOf i).toNat)
 case atStart=>exact⟨0,aU _,U,HP0.out⟩
 case round =>
  clear HP0;obtain⟨x,hx,rfl,hP⟩:=hrel;have T:=hid hP;clear hP;by_cases p:x<16
  ·have h16':(x:Int)<16:=by omega
   have hd:=qQ m y x;have ix:=λW=>xo (gd m y) x p W
   have c0:=(H.out.kept T.out.low).c (160+gd m y x) (by omega);have c1:=T.out.o.at x _ (oy _ p);have f1:=T.out.o.f x;go_wp2;exact⟨⟨x+1,p,by go_num,T.out.step p⟩,by simp[intOf];omega⟩
  ·have h17:¬ (x:Int)<16:=by omega
   have e16:x=16:=by omega
   subst e16;clear hx p h17;go_wp2_with (first
    | (go_at_call 249;refine(zrC m _ g o c y _ (H.out.kept (stA T.out.low _)) hy).mono ?_;rw[<- HKe.out];rintro e w4 ⟨s,rfl,q,hb4⟩;have HOwn:=hid q;have HB4:=hid hb4;obtain⟨sa,sc,rfl⟩:=ziE q;clear q hb4))
   have u:Hid (PxW w m y w1.heap.size w2.heap.size wr.heap.size (kh m y []) (kr m y []) w4):=by
    have hb:=(T.out.over (.cells (gS λ_=>false).toArray 310)).congr (fo':=kh m y []) (λx hx=>by rw[Q hx];rfl);exact(⟨hb,Bx.new wr (gS λ_=>false) _ U,T.out.o.z⟩:PxW w m y w1.heap.size w2.heap.size wr.heap.size (kh m y []) (kr m y []) _).kept HB4.out
   obtain⟨bt,L⟩:∃ bt,bt=wr.heap.size:=⟨_,U⟩
   have HBt:=hid L;rw[<- L] at u;rw[<- L];clear T HB4 hz hl L;by_cases Y:ks=[]
   ·subst Y
    go_loopw [43] (λi W=>i=.int .i64 0/\PxW w m y w1.heap.size w2.heap.size bt (kh m y []) (kr m y []) W) (λ_ _=>0)
    case atStart=>exact⟨U,u.out⟩
    case round =>
     obtain⟨rfl,b⟩:=hrel;have B:=hid b;clear b u;go_wp2_with (first
      | (refine oT U _ U _ _ U B.out.o ?_)
      | (refine ol U _ _ U w.heap.size (kh m y []) _ U U B.out.r ?_;rintro w' E F;have Z:=hid F;have HW':=hid E;clear F E))
     have hl:=oU Z.out;refine ao (v:=.agg (bf (kh m y [])).toArray) ?_ U ⟨U,?_⟩
     ·simp only[results,results202]
      simp;exact hl
     ·rw[HW'.out];exact Bl.puts B.out.low (ak _) _
   ·obtain⟨gl,lc,hse,hgl,V⟩:=Lst.of HOwn.out Y
    simp only[fd] at hse;obtain⟨rfl,_,rfl⟩:=hse;have HL0:Hid (bt<gl):=ap (by rw[HBt.out];simp) hgl;have HLs:=hid V;clear HOwn hgl V Y;go_loopw [43] (λi W=>∃ j:Nat,j<=ks.length/\i=.int .i64 j/\PxW w m y w1.heap.size w2.heap.size bt (kh m y (ks.take j)) (kr m y (ks.take j)) W/\Lst W gl ks) (λi _=>ks.length-(intOf i).toNat)
    case atStart=>exact⟨0,aU _,U,u.out,HLs.out⟩
    case round =>
     clear u HLs;obtain⟨j,hj,rfl,b,hL⟩:=hrel;have B:=hid b;have HL:=hid hL;clear b hL;by_cases hjl:j<ks.length
     ·have hjl':(j:Int)<ks.length:=by omega
      obtain⟨k,R⟩:∃ k,ks[j]?=some k:=⟨ks[j],au hjl⟩
      have HK:=hid (HKs.out k (bh R));have hcl:=HL.out.c j k R;have HJ:Hid (ks.take (j+1)=ks.take j++[k]):=by rw[dw,R];rfl
      clear R;go_wp2_with (first
       | (go_at_call 250;refine(zce m _ g o c k _ (H.out.kept B.out.low) HK.out.1).mono ?_;rintro e w5 ⟨rfl,hb5⟩;have M:=hid (B.out.kept hb5);have HL5:=hid (HL.out.kept hb5);clear hb5)
       | (go_at_call 251;refine(zt1 m _ g o c k y _ (H.out.kept (stA M.out.low _)) HK.out.2 hy).mono ?_;rintro e w6 ⟨rfl,hb6⟩;have N:=hid hb6;clear hb6))
      have HI0:Hid (InW w m y w1.heap.size w2.heap.size bt gl w5.heap.size ks (ks.take j) k 0 w6) :=
       ⟨((M.out.over _).kept N.out).congr (λx _=>(zt9 x).symm) (λx _=>(zua x).symm),(Bx.new w5 (scS m k) 314 U).kept N.out,M.out.t.z,(HL5.out.kept (stA (J w5) _)).kept N.out,HL0.out⟩
      clear B HL M HL5 N hcl;go_loopw [54] (λi W=>∃ n:Nat,n<=4/\i=.int .i64 n/\InW w m y w1.heap.size w2.heap.size bt gl w5.heap.size ks (ks.take j) k n W) (λi _=>4-(intOf i).toNat)
      case atStart=>exact⟨0,aU _,U,HI0.out⟩
      case round =>
       clear HI0;obtain⟨n,hn,rfl,hI⟩:=hrel;have a:=hid hI;clear hI;by_cases h4:n<4
       ·have h4':(n:Int)<4:=by omega
        have ix:=λW=>idx4 (sdS m y k) n h4 W
        have hcb:clS m k<256:=f8 _ _;have s1:=a.out.s.at 1 _ U;by_cases hR:16<=clS m k+n
        ·have hR':(16:Int)<=(clS m k:Int)+n:=by omega
         go_wp2;exact⟨⟨n+1,h4,by go_num,a.out.same (zud hR)⟩,by simp[intOf];omega⟩
        ·have hR':¬ (16:Int)<=(clS m k:Int)+n:=by omega
         have b:clS m k+n<16:=by omega
         have hsl:=zvf m y k n;by_cases hd:sdS m y k n=0
         ·have hd':((sdS m y k n:Int) == 0)=true:=by rw[hd];rfl
          have HD:=hid hd;clear hd;go_wp2;exact⟨⟨n+1,h4,by go_num,a.out.same (zwC h4 HD.out)⟩,by simp[intOf];omega⟩
         ·have hd':((sdS m y k n:Int) == 0)=false:=by simp;omega
          have HD:=hid hd;clear hd;have ct:=a.out.t.at (clS m k+n) _ (zfJ _ b);rw[zrG] at ct;cases ht:kr m y (ks.take j) (clS m k+n) with
          | true =>
           rw[ht] at ct;have HT:=hid ht;clear ht;go_wp2;exact⟨⟨n+1,h4,by go_num,a.out.same (zue HT.out)⟩,by simp[intOf];omega⟩
          | false =>
           rw[ht] at ct;have HT:=hid ht;clear ht;have ft:=a.out.t.f (clS m k+n);have s5:=(a.out.s.far (b':=bt) (o':=clS m k+n) (gc a.out.d4) (.bool true)).at 5 _ U;have cg:=(a.out.g.far (b':=bt) (o':=clS m k+n) (kE (jm a.out.d2 a.out.d3)) (.bool true)).at _ _ (oy _ b);have co:=(a.out.o.far (b':=bt) (o':=clS m k+n) (kE a.out.d3) (.bool true)).at _ _ (oy _ b);have fo:=(a.out.o.far (b':=bt) (o':=clS m k+n) (kE a.out.d3) (.bool true)).f (clS m k+n);have cm:=(H.out.kept (a.out.toPxW.take _ b).low).c (164+sdS m y k n) (by omega);by_cases P:128<=hwS m k
           ·rw[aL P] at s5
            by_cases I:gd m y (clS m k+n)=0
            ·have hg':((gd m y (clS m k+n):Int) == 0)=true:=by rw[I];rfl
             have HS:=hid (zrI h4 HD.out HT.out (λhh=>hh.2 I));clear I;go_wp2;exact⟨⟨n+1,h4,by go_num,a.out.seen b HS.out⟩,by simp[intOf];omega⟩
            ·have hg':((gd m y (clS m k+n):Int) == 0)=false:=by simp;omega
             have HS:=hid (zrH h4 HD.out HT.out P I);clear I;go_wp2;exact⟨⟨n+1,h4,by go_num,a.out.hid b HS.out⟩,by simp[intOf];omega⟩
           ·rw[aF P] at s5
            have HS:=hid (zrI h4 HD.out HT.out (λhh=>P hh.1));go_wp2;exact⟨⟨n+1,h4,by go_num,a.out.seen b HS.out⟩,by simp[intOf];omega⟩
       ·have h9:¬ (n:Int)<4:=by omega
        have e4:n=4:=by omega
        subst e4;clear h4 hn;go_wp2;refine⟨⟨j+1,hjl,by go_num,?_,a.out.l⟩,by simp[intOf];omega⟩;rw[HJ.out];exact a.out.toPxW.congr (λx _=>zub x) (λx _=>zuc x)
     ·have hj9:¬ (j:Int)<ks.length:=by omega
      have ej:ks.take j=ks:=cD (by omega);rw[ej] at B;clear ej;go_wp2_with (first
       | (refine oT U _ U _ _ U B.out.o ?_)
       | (refine ol U _ _ U w.heap.size (kh m y ks) _ U U B.out.r ?_;rintro w' E F;have Z:=hid F;have HW':=hid E;clear F E))
      have hl:=oU Z.out;refine ao (v:=.agg (bf (kh m y ks)).toArray) ?_ U ⟨U,?_⟩
      ·simp only[results,results202]
       simp;exact hl
      ·rw[HW'.out];exact Bl.puts B.out.low (ak _) _
def oN(n:Nat)(y:Int):Int:=if n=256 then (if 0<=y/\y<8 then 0 else 3) else 4
theorem zlZ(a:Option Addr)(n c:Nat)(y:Int)(w:World):Calls prog 201 #[.slice a n c,.int .i64 y] w λe w'=>e=.returned (.int .i64 (oN n y))/\w=w':=by
 by_cases b:n=256
 ·by_cases h1:y<0
  ·have e:oN n y=3:=by unfold oN;rw[Q b,G (by omega)]
   rw[e];subst b;go_enter func201,ntmps201;go_wp2;go_ret;exact⟨U,U⟩
  ·by_cases h2:(8:Int)<=y
   ·have e:oN n y=3:=by unfold oN;rw[Q b,G (by omega)]
    rw[e];subst b;go_enter func201,ntmps201;go_wp2;go_ret;exact⟨U,U⟩
   ·have e:oN n y=0:=by unfold oN;rw[Q b,Q (by omega)]
    rw[e];subst b;go_enter func201,ntmps201;go_wp2;go_ret;exact⟨U,U⟩
 ·have e:oN n y=4:=by unfold oN;rw[G b]
  rw[e];have d:((n:Int) != 256)=true:=by simp;omega
  go_enter func201,ntmps201;go_wp2;go_ret;exact⟨U,U⟩
theorem zrJ(m:List UInt8)(v:Value)(g o c:Nat)(y:Nat)(w:World)(h:Mm w m v g o c)(l:y<8):Calls prog 112 #[v,.int .i64 y] w λe w'=>e=.returned (.tuple #[.agg (bf (px m y)).toArray,.int .i64 0])/\Below w.heap.size w w':=by
 have H:=hid h;obtain⟨rfl,j,q,hc⟩:=h;have k:oN 256 y=0:=by unfold oN;rw[Q U,Q (by omega)]
 have n:=hid k;clear hc k;go_enter func112,ntmps112;go_wp2_with (first
  | (go_at_call 201;refine(zlZ _ _ _ _ _).mono ?_;rw[n.out];rintro e w1 ⟨rfl,rfl⟩)
  | (go_at_call 202;refine(zpa m _ g o c y _ (H.out.kept (stA (J w) _)) l).mono ?_;rintro e w2 ⟨rfl,a⟩)
  | (refine ol U _ _ U w.heap.size (px m y) (λ_=>0) U U ((Bx.new w (bf λ_=>0) _ U).kept a) ?_;rintro p b d;have f:=hid d;have i:=hid b;clear d b))
 have j:=oU f.out;refine ao (v:=.tuple #[.agg (bf (px m y)).toArray,.int .i64 0]) ?_ U ⟨U,?_⟩
 ·simp only[results,results112]
  simp;show (Result.andThen (Sem.run prog (loadVar 66 ⟨w.heap.size,0,none⟩) p) _)=_;rw[j];rfl
 ·rw[i.out];exact Bl.puts (bn (stA (J w) _) a) (ak _) _
section
variable {W w1 : World} {b : Nat} {M : List UInt8}
end
def Z256:List UInt8:=List.replicate 256 0
def M0:List UInt8:=((((Z256.set 16 (UInt8.ofNat 27)).set 160 (UInt8.ofNat 10)).set 161 (UInt8.ofNat 11)).set 162 (UInt8.ofNat 12)).set 163 (UInt8.ofNat 13)
end Go.Proofs.YthghjlinhokimaaGreatDoor
