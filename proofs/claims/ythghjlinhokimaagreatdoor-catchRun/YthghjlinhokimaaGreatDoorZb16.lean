/-
  Parts of a proof, joined.
-/
import Derived.Test.YthghjlinhokimaaGreatDoorZbA
import Derived.Test.YthghjlinhokimaaGreatDoorZb10
import Derived.Test.YthghjlinhokimaaGreatDoorZb12
import Derived.Test.YthghjlinhokimaaGreatDoorZb11
import Derived.Test.YthghjlinhokimaaGreatDoorZb09
import Derived.Lib.SlBuf
set_option linter.all false
set_option maxRecDepth 100000
set_option maxHeartbeats 3200000
open Option renaming none->G,some->A
open Go renaming World->u,Value->π,Calls->Δ,loadVar->bC,bits->bW,Oper->cG,wpList->dg,Operand->dk
open Bool renaming false->ξ,true->Γ
open Go.Proofs.Tryz renaming prog->ω
open Go.Instr renaming index->aK
open Go.RowKit renaming intOf->aU,Hid->bG
open UInt8 renaming ofNat->bF
open Int renaming tdiv->gB
open Go.Builtin renaming copy_->qt
open Go.Value renaming int->J,slice->κ,bool->ν,tuple->Ψ,string->Ω,agg->ac
open Go.IntKind renaming i64->Q,u16->Y,u8->au
open Go.Ending renaming returned->μ
open Go.Obj renaming cells->χ
namespace Go.Proofs.YthghjlinhokimaaGreatDoor
open Go.ChangeShapes Go.WideShapes Go.ChangeAt Go.RowKit Go.Proofs.Tryz
section
variable {F : Fx} {W : u} {M M' : Mach} {tk : Tk}
theorem ztI(n:Nat)(a b:Array π)(w:u):(binOp .eql 120 (.func (.func n) a b) .nilFunc).run ω w=.ok (ν ξ) w:=by kernel_rfl
abbrev lX(g o:Nat):π:=ac #[ik 132 g o,ik 133 g o]
theorem zgh(g:Nat)(w:u):Δ ω 69 #[pt g 0] w λe w'=>e=μ (lX g 77)/\Below w.heap.size w w':=by
 go_enter func69,ntmps69;go_wp2;go_region_with fail
 all_goals go_wp2
 all_goals
  refine Ξ (v:=.agg _) (by simp[results,results69,go_sem]) D ⟨D,?_⟩;exact(stA (aR _) _).drew
theorem zip(g:Nat)(w:u):Δ ω 114 #[pt g 0] w λe w'=>e=μ (lX g 143)/\Below w.heap.size w w':=by
 go_enter func114,ntmps114;go_wp2;go_region_with fail
 all_goals go_wp2
 all_goals
  refine Ξ (v:=.agg _) (by simp[results,results114,go_sem]) D ⟨D,?_⟩;exact(stA (aR _) _).drew
def kP(F:Fx)(M:Mach)(tk:Tk)(o:Nat)(a x:Int):Prop:=∀ W,Bd F W M tk->Δ ω 132 #[pt F.g o,J Y a] W λe w'=>e=μ (J au x)/\Bd F w' M tk/\Bt F W w'
theorem Bu.byte_at(h:Bd F W M tk)(o:Nat)(a x:Int)(d:kP F M tk o a x):Δ ω 210 #[lX F.g o,J Y a] W λe w'=>e=μ (J au x)/\Bd F w' M tk/\Bt F W w':=by
 have f:=ztI 132 #[pt F.g o] #[];have H:=hid h;clear h;go_enter func210,ntmps210;go_wp2_with (go_at_call 132;refine(d _ (H.out.over _)).mono ?_;rintro e w1 ⟨rfl,b,c⟩)
 go_ret;exact⟨D,b,Mv.trans (Mv.of_below H.out.big (stA (aR _) _)) c⟩
end
theorem zwA(s:Sd)(k:Nat)(b:Int)(w:u)(d:k<24)(h:s.ok)(hb:0<=b/\b<=255):Δ ω 151 #[(ac #[J Y s.a.p,J Y s.a.c,J au s.a.l,ν s.a.h,J Y s.a.n,J Y s.b.p,J Y s.b.c,J au s.b.l,ν s.b.h,J Y s.b.n,J Y s.c.p,J Y s.c.c,J au s.c.l,ν s.c.h,J Y s.c.n,J Q s.w]),J Q k,J au b] w λe w'=>e=μ (ac (lz (s.put k b)).toArray)/\Below w.heap.size w w':=by
 by_cases h1:k<8
 ·have e:s.put k b=⟨s.a.put k b,s.b,s.c,s.w⟩:=by unfold Sd.put;rw[am h1,ke h1]
  rw[e];exact zAT s k k b w ⟨h1,by omega⟩ h hb
 by_cases h2:k<16
 ·obtain⟨j,rfl⟩:∃ j,k=8+j:=⟨k-8,by omega⟩
  have e:s.put (8+j) b=⟨s.a,s.b.put j b,s.c,s.w⟩:=by unfold Sd.put;rw[ae h1,am h2,show (8+j)%8=j by omega]
  rw[e];exact zAU s j _ b w ⟨by omega,by omega⟩ h hb
 ·obtain⟨j,rfl⟩:∃ j,k=16+j:=⟨k-16,by omega⟩
  have e:s.put (16+j) b=⟨s.a,s.b,s.c.put j b,s.w⟩:=by unfold Sd.put;rw[ae h1,ae h2,show (16+j)%8=j by omega]
  rw[e];exact zAV s j _ b w ⟨by omega,by omega⟩ h hb
section
variable {F : Fx} {W : u} {M M' : Mach} {tk : Tk}
theorem sD(M:Mach)(a:Int):0<=M.lookM a/\M.lookM a<=255:=by
 unfold Mach.lookM mM;split
 ·split
  ·exact zi _ _
  ·omega
 ·split
  ·exact zi _ _
  ·split
   ·exact zi _ _
   ·omega
theorem zlz(M:Mach)(k:Nat):(M.xfer k).fr=M.fr/\(M.xfer k).to=M.to/\(M.xfer k).mrom=M.mrom/\(M.xfer k).ram=M.ram/\(M.xfer k).video.length=M.video.length/\{ M.xfer k with video:=M.video }=M:=by
 induction k with
 | zero=>exact⟨D,D,D,D,D,D⟩
 | succ k a =>
  obtain⟨h1,h2,h3,h4,b,c⟩:=a;exact⟨h1,h2,h3,h4,by simp[Mach.xfer,wm,b],c⟩
theorem Bd.xf(h:Bd F W M tk)(a:Nat)(hc:F.S.vi=κ (A ⟨F.vi,0,G⟩) 256 a):W.cell? ⟨F.g,34,G⟩=A (κ (A ⟨F.vi,0,G⟩) 256 a)/\W.cell? ⟨F.g,65,G⟩=A (J Y M.fr)/\W.cell? ⟨F.g,66,G⟩=A (J Y M.to) :=
 ⟨by rw[<- hc];exact h.at 34 _ D,h.at 65 _ D,h.at 66 _ D⟩
theorem zy3{a b c:π}{o:Nat}{v:π}(d:F.g≠F.vi)(h:W.cell? ⟨F.g,34,G⟩=A a/\W.cell? ⟨F.g,65,G⟩=A b/\W.cell? ⟨F.g,66,G⟩=A c):(W.setCell ⟨F.vi,o,G⟩ v).drew.cell? ⟨F.g,34,G⟩=A a/\(W.setCell ⟨F.vi,o,G⟩ v).drew.cell? ⟨F.g,65,G⟩=A b/\(W.setCell ⟨F.vi,o,G⟩ v).drew.cell? ⟨F.g,66,G⟩=A c :=
 ⟨AA d h.1,AA d h.2.1,AA d h.2.2⟩
theorem ztH(h:Bd F W M tk)(n:Int)(L:0<=n/\n<=255)(P:0<=tk.n/\tk.n<=1000000000000):Δ ω 192 #[pt F.g 0,J au n] W λe w'=>e=μ (Ψ #[])/\Bd F w' (M.putM 14 n) (tk.add (2*n))/\Bt F W w':=by
 obtain⟨b,c,_,_⟩:=h.viV;have R:=hid c;obtain⟨N,rfl⟩:=aA L.1;have hN:N<=255:=by omega
 have H:=hid h;have T:=h.fit.fr;have U:=h.fit.to;have r:=h.nd.d.2.2.1;clear h c;go_enter func192,ntmps192;go_wp2;go_loopw [7] (λi wr=>∃ k:Nat,k<=N/\i=J Y k/\Bd F wr (M.xfer k) tk/\Bt F W wr) (λi _=>N-(aU i).toNat)
 case atStart=>exact⟨0,by omega,D,H.out,Bt.refl _ _⟩
 case round =>
  obtain⟨k,hk,rfl,hB,q⟩:=hrel;by_cases V:k<N
  ·have l:=hid hB
   have s:=hid q;obtain⟨r1,r2,_,_,r5,_⟩:=zlz M k;obtain⟨c1,c2,c3⟩:=hB.xf b R.out;rw[r1] at c2;rw[r2] at c3;have X:=hB.bx.z;obtain⟨v1,v2,v3⟩:=hB.viAt ((M.to+k)%65536%256) (by omega) (by omega);have y:(k:Int)<N:=by omega
   have a:∀ w:u,Δ ω 181 #[κ (A ⟨F.vi,0,G⟩) 256 b,J Y ((M.to+k)%65536)] w λe w'=>e=μ (pt F.vi ((M.to+k)%65536%256).toNat)/\w=w':=λw=>Az F.vi 256 b ((M.to+k)%65536) w (by omega) (by omega) (by omega)
   have o:=hid (l.out.drew.putVideo ((M.to+k)%65536%256) ((M.xfer k).lookM ((M.fr+k)%65536)) (by omega) (by omega) (sD _ _));have t:=hid (Bt.setV l.out.nd s.out.drew ((M.to+k)%65536%256).toNat (J au ((M.xfer k).lookM ((M.fr+k)%65536))));clear hB q;have m:=hid (zgf l.out.drew ((M.fr+k)%65536) (by omega));generalize B:((M.to+k)%65536%256).toNat=j at *;generalize E:(M.xfer k).lookM ((M.fr+k)%65536)=x at *;have v:=hid a;have HJ:=hid B;have p:=hid E;clear B E a;go_wp2;go_region_held3 (λw'=>w'.cell? ⟨F.g,34,G⟩=A (κ (A ⟨F.vi,0,G⟩) 256 b)/\w'.cell? ⟨F.g,65,G⟩=A (J Y M.fr)/\w'.cell? ⟨F.g,66,G⟩=A (J Y M.to))
    ((first|(with_reducible exact⟨c1,c2,c3⟩)|(with_reducible exact zy3 r ⟨c1,c2,c3⟩)|(go_keep;done)))
    ((first
      | (go_at_call 181;refine(v.out _).mono ?_;rintro e w1 ⟨rfl,rfl⟩)
      | (go_at_call 214;refine m.out.mono ?_;rintro e w1 ⟨rfl,rfl⟩)))
   go_wp2
   go_roundw
   case rel =>
    refine⟨k+1,by omega,by go_num,?_,t.out⟩;have hp:=o.out;rw[<- p.out] at hp;rw[<- p.out];exact hp
   case measure=>simp[aU];omega
  ·obtain rfl:k=N:=by omega
   have c1:=hB.at 75 (J Q tk.n) D;have f1:=hB.bx.f 75;have X:=hB.bx.z;have l:=hid hB;have s:=hid q;have I:M.putM 14 (k:Int)=M.xfer k:=by show M.xfer (k:Int).toNat=_;rw[bR]
   have Z:=hid I;clear hB q I;go_wp2;go_end0;rw[Z.out];exact⟨D,l.out.put 75 _ (by omega) D ⟨D,D,D,D,D⟩ l.out.fit,s.out.set l.out.nd 75 _⟩
end
abbrev sRom:π:=.string { data:=#[114,111,109] }
abbrev sRam:π:=.string { data:=#[114,97,109] }
abbrev sWin:π:=.string { data:=#[119,105,110,100,111,119] }
abbrev Cx:π:=.string { data:=#[112,111,114,116,115] }
abbrev Cz:π:=.string { data:=#[] }
theorem Gm.reg0(a:Int)(w:u)(b:0<=a)(h:a<32768):Δ ω 88 #[J Y a] w λe w'=>e=μ sRom/\w=w':=by
 have c:gB a 4096=a/4096:=aF b;have h1:a/4096<8:=by omega
 have h2:0<=a/4096:=by omega
 go_enter func88,ntmps88;go_wp2;go_ret;exact⟨D,D⟩
theorem Gm.reg1(a:Int)(w:u)(b:32768<=a)(h:a<49152):Δ ω 88 #[J Y a] w λe w'=>e=μ sRam/\w=w':=by
 have c:gB a 4096=a/4096:=aF (by omega);have h1:a/4096<12:=by omega
 have h2:8<=a/4096:=by omega
 go_enter func88,ntmps88;go_wp2;go_ret;exact⟨D,D⟩
theorem Gm.reg2(a:Int)(w:u)(b:49152<=a)(h:a<53248):Δ ω 88 #[J Y a] w λe w'=>e=μ sWin/\w=w':=by
 have c:gB a 4096=12:=by rw[aF (by omega)];omega
 go_enter func88,ntmps88;go_wp2;go_ret;exact⟨D,D⟩
theorem Gm.reg3(a:Int)(w:u)(b:53248<=a)(h:a<=57343):Δ ω 88 #[J Y a] w λe w'=>e=μ Cx/\w=w':=by
 have c:gB a 4096=13:=by rw[aF (by omega)];omega
 go_enter func88,ntmps88;go_wp2;go_ret;exact⟨D,D⟩
theorem Gm.reg4(a:Int)(w:u)(c:57344<=a)(h:a<=65535):Δ ω 88 #[J Y a] w λe w'=>e=μ Cz/\w=w':=by
 obtain⟨q,d,h1,b⟩:∃ q,gB a 4096=q/\14<=q/\q<=15:=⟨_,D,by rw[aF (by omega)];omega⟩
 have h2:(q == 12)=ξ:=by simp;omega
 have h3:(q == 13)=ξ:=by simp;omega
 have h4:8<=q:=by omega
 have f:12<=q:=by omega
 go_enter func88,ntmps88;go_wp2;go_ret;exact⟨D,D⟩
theorem zrF{l:List UInt8}{a:Int}(d:0<=a)(h:a<l.length):∃ c,l[a.toNat]?=A c/\mM l a=(c.toNat:Int):=by
 have b:a.toNat<l.length:=by omega
 refine⟨l[a.toNat],aq b,?_⟩;unfold mM mq;rw[am h,gH,aq b];rfl
theorem zix(v:π)(l:List UInt8)(a:Int)(w:u)(f:sliceAt w v l)(h:0<=a)(h1:a<=65535):Δ ω 149 #[v,J Y a] w λe w'=>e=μ (J au (mM l a))/\w=w':=by
 by_cases d:a<l.length
 ·obtain⟨c,hc,ev⟩:=zrF h d
  rw[ev];rcases f with⟨θ,b,_,rfl⟩|⟨g,o,b,rfl,h2,h3,h4⟩
  ·simp at d;omega
  ·have i:=h4 _ _ hc
   clear h4 ev hc;go_enter func149,ntmps149;go_wp2;go_ret;exact⟨D,D⟩
 ·have ev:mM l a=255:=by unfold mM;rw[ae d]
  rw[ev];obtain⟨θ,b,e⟩:∃ θ b,v=κ θ l.length b:=by
   rcases f with⟨θ,b,e1,e2⟩|⟨g,o,b,e1,_⟩
   ·exact⟨θ,b,by rw[e1,e2];rfl⟩
   ·exact⟨_,_,e1⟩
  subst e;clear f;go_enter func149,ntmps149;go_wp2;go_ret;exact⟨D,D⟩
section
variable {F : Gx} {W : u} {M : Mach} {tk : Tk}
theorem zd3(h:Gd F W M tk)(a:Int)(c:0<=a/\a<=65535):Δ ω 89 #[pt F.g 0,J Y a] W λe w'=>e=μ (J au (if dP a then 255 else M.lookM a))/\W=w':=by
 have o:=h.bx.z;unfold Mach.lookM dP;by_cases h1:a<32768
 ·rw[ae (by simp;omega),am h1]
  have d:=h.at 30 F.S.mr D;have f:=hid h.mr;clear h;go_enter func89,ntmps89;go_wp2_with (first
   | (go_at_call 88;refine(Gm.reg0 a _ c.1 h1).mono ?_;rintro e w1 ⟨rfl,rfl⟩)
   | (go_at_call 149;refine(zix _ _ a _ f.out c.1 c.2).mono ?_;rintro e w1 ⟨rfl,rfl⟩))
  go_ret;exact⟨D,D⟩
 ·by_cases h2:a<49152
  ·rw[ae (by simp;omega),ae h1,am h2]
   obtain⟨b,e,_,_⟩:=h.ramV;have i:W.cell? ⟨F.g,32,G⟩=A (κ (A ⟨F.ra,0,G⟩) 128 b):=(h.at 32 F.S.ra D).trans (by rw[e]);obtain⟨j,k,l⟩:=h.ramAt ((a-32768)%128) (by omega) (by omega);have m:Int.tmod (a-32768) 128=(a-32768)%128:=ak (by omega);clear h e;go_enter func89,ntmps89;go_wp2_with (go_at_call 88;refine(Gm.reg1 a _ (by omega) h2).mono ?_;rintro e w1 ⟨rfl,rfl⟩)
   go_ret;exact⟨D,D⟩
  ·by_cases h3:a<53248
   ·rw[ae (by simp;omega),ae h1,ae h2,am h3]
    obtain⟨b,e,_,_⟩:=h.viV;have n:W.cell? ⟨F.g,34,G⟩=A (κ (A ⟨F.vi,0,G⟩) 256 b):=(h.at 34 F.S.vi D).trans (by rw[e]);obtain⟨j,k,l⟩:=h.viAt ((a-49152)%256) (by omega) (by omega);have m:Int.tmod a 256=(a-49152)%256:=by rw[ak (by omega)];omega
    clear h e;go_enter func89,ntmps89;go_wp2_with (go_at_call 88;refine(Gm.reg2 a _ (by omega) h3).mono ?_;rintro e w1 ⟨rfl,rfl⟩)
    go_ret;exact⟨D,D⟩
   ·rw[ae h1,ae h2,ae h3]
    simp only[ite_self];by_cases h4:a<=57343
    ·go_enter func89,ntmps89
     go_wp2_with (go_at_call 88;refine(Gm.reg3 a _ (by omega) h4).mono ?_;rintro e w1 ⟨rfl,rfl⟩)
     go_ret;exact⟨D,D⟩
    ·go_enter func89,ntmps89
     go_wp2_with (go_at_call 88;refine(Gm.reg4 a _ (by omega) c.2).mono ?_;rintro e w1 ⟨rfl,rfl⟩)
     go_ret;exact⟨D,D⟩
end
theorem yK(b:Nat)(h:b<256):bW .and au (b:Int) 3=((b%4:Nat):Int):=by
 rw[show (3:Int)=((3:Nat):Int) from D,mC _ _ (by omega) (by omega),show (3:Nat)=2 ^ 2-1 from D,fE]
theorem four(b:Nat)(h:b<256):(b:Int)/64=((b/4 ^ 3%4:Nat):Int)/\bW .and au ((b:Int)/16) 3=((b/4 ^ 2%4:Nat):Int)/\bW .and au ((b:Int)/4) 3=((b/4 ^ 1%4:Nat):Int)/\bW .and au (b:Int) 3=((b/4 ^ 0%4:Nat):Int):=by
 refine⟨?_,?_,?_,?_⟩
 ·have:b/4 ^ 3%4=b/64:=by omega
  rw[this];omega
 ·rw[show (b:Int)/16=((b/4 ^ 2:Nat):Int) by omega];exact yK _ (by omega)
 ·rw[show (b:Int)/4=((b/4 ^ 1:Nat):Int) by omega];exact yK _ (by omega)
 ·rw[show b/4 ^ 0=b by omega];exact yK _ h
theorem agg4{a b c d e b' f g:Int}(h1:a=e)(h2:b=b')(h3:c=f)(h4:d=g):Value.agg #[J au a,J au b,J au c,J au d]=ac #[J au e,J au b',J au f,J au g]:=by rw[h1,h2,h3,h4]
theorem AN(m:List UInt8)(v:π)(g o c:Nat)(t y:Nat)(w:u)(h:Mm w m v g o c)(a:t<256)(b:y<4):Δ ω 282 #[v,J au t,J Q y] w λe w'=>e=μ (ac #[J au (td m t 0 y),J au (td m t 1 y),J au (td m t 2 y),J au (td m t 3 y)])/\Below w.heap.size w w':=by
 obtain⟨rfl,d,f,hc⟩:=h;have h1:=hc (16+4*(t%16)+y) (by omega);clear hc;go_enter func282,ntmps282;go_wp2;obtain⟨e1,e2,e3,e4⟩:=four (gb m (16+4*(t%16)+y)) (jJ ..);refine Ξ (v:=.agg _) (by simp[results,results282,go_sem]) D ⟨qE (agg4 e1 e2 e3 e4),?_⟩;exact stA (aR w) _
theorem ziz(a b c d:Int)(w:u):Δ ω 284 #[ac #[J au a,J au b,J au c,J au d]] w λe w'=>e=μ (ac #[J au d,J au c,J au b,J au a])/\Below w.heap.size w w':=by
 go_enter func284,ntmps284;go_wp2;refine Ξ (v:=.agg _) (by simp[results,results284,go_sem]) D ⟨D,?_⟩;exact stA (stA (aR w) _) _
theorem zfc(l b t:Int)(b1 b2 b3:Bool)(y:Int)(w:u)(c:0<=l/\l<=255):Δ ω 283 #[ac #[J Q l,J Q b,J au t,ν b1,ν b2,ν b3],J Q y] w λe w'=>e=μ (ν (decide (l<=y/\y<l+4)))/\Below w.heap.size w w':=by
 have a:decide (l<=y/\y<l+4)=(decide (l<=y) && decide (y<l+4)):=by simp
 rw[a];clear a;by_cases h1:l<=y
 ·go_enter func283,ntmps283
  go_wp2;go_ret;exact⟨by simp[h1],stA (aR w) _⟩
 ·go_enter func283,ntmps283
  go_wp2;go_ret;exact⟨by simp;omega,stA (aR w) _⟩
theorem bit0(b:Nat)(h:b<256):(bW .and au (b:Int) 1 != 0)=decide (b%2=1):=by
 rw[show (1:Int)=((1:Nat):Int) from D,mC _ _ (by omega) (by omega),show b &&& 1=b%2 from fE b 1];rcases qg b with e|e <;> rw[e] <;> rfl
theorem bit1(b:Nat)(h:b<256):(bW .and au (b:Int) 2 != 0)=decide (b/2%2=1):=by
 rw[show (2:Int)=((2:Nat):Int) from D,mC _ _ (by omega) (by omega),show b &&& 2=if b.testBit 1 then 2 ^ 1 else 0 from M.and_pow b 1,cY];by_cases e:b/2 ^ 1%2=1 <;> simp[e]
theorem bit7(b:Nat)(h:b<256):(bW .and au (b:Int) 128 != 0)=decide (128<=b):=by
 rw[show (128:Int)=((128:Nat):Int) from D,mC _ _ (by omega) (by omega),show b &&& 128=if b.testBit 7 then 2 ^ 7 else 0 from M.and_pow b 7,cY];by_cases e:b/2 ^ 7%2=1
 ·have:128<=b:=by omega
  simp[e,this]
 ·have:¬ 128<=b:=by omega
  simp[e,this]
theorem AO(m:List UInt8)(i:Nat):IntKind.i64.wrap (gb m i:Int)=gb m i:=by
 have:=jJ m i;rw[aH];omega
theorem zd4(b:Nat):∀(vs:List π) (o:Nat) (w:u),(w.setCells b o vs).heap.size=w.heap.size
 | [],o,w=>rfl
 | v::vs,o,w=>(zd4 b vs (o+1) _).trans (by simp)
theorem zqe{W:u}{b:Nat}{L:List π}(h:W.rangeAt b 0 L)(hb:b<W.heap.size)(o:Obj):(W.alloc o).rangeAt b 0 L:=λj v a=>((stA (aR W) o).cell (p:=⟨b,0+j,G⟩) hb).trans (h j v a)
theorem zfT(w:u)(b:Nat)(a x1 x2 x3:π)(h:w.rangeAt b 0 [a,x1,x2,x3]):(bC 317 ⟨b,0,G⟩).run ω w=.ok (ac #[a,x1,x2,x3]) w :=
 run_loadVar_mid w b 0 317 [a,x1,x2,x3] _ h underlying317 rfl (by kernel_rfl)
def scS(m:List UInt8)(k:Nat):List π:=[J Q (lnS m k),J Q (clS m k),J au (kW m k),ν (decide (hwS m k%2=1)),ν (decide (hwS m k/2%2=1)),ν (decide (128<=hwS m k))]
theorem zcx(m:List UInt8)(v:π)(g o c:Nat)(k:Nat)(w:u)(h:Mm w m v g o c)(a:k<8):Δ ω 250 #[v,J Q k] w λe w'=>e=μ (ac #[J Q (lnS m k),J Q (clS m k),J au (kW m k),ν (decide (hwS m k%2=1)),ν (decide (hwS m k/2%2=1)),ν (decide (128<=hwS m k))])/\Below w.heap.size w w':=by
 obtain⟨rfl,b,d,hc⟩:=h;have f:=hc (128+4*k) (by omega);have h1:=hc (128+4*k+1) (by omega);have h2:=hc (128+4*k+2) (by omega);have h3:=hc (128+4*k+3) (by omega);clear hc;have a0:(0:Int)<=128+4*(k:Int):=by omega
 have a1:(0:Int)<=128+4*(k:Int)+1:=by omega
 have a2:(0:Int)<=128+4*(k:Int)+2:=by omega
 have b0:128+4*(k:Int)<256:=by omega
 have b1:128+4*(k:Int)+1<256:=by omega
 have b2:128+4*(k:Int)+2<256:=by omega
 have t0:(128+4*(k:Int)).toNat=128+4*k:=by omega
 have i:(128+4*(k:Int)+1).toNat=128+4*k+1:=by omega
 have t2:(128+4*(k:Int)+2).toNat=128+4*k+2:=by omega
 have g0:=AO m (128+4*k);have g1:=AO m (128+4*k+1);have w1:IntKind.i64.wrap (128+4*(k:Int)+1)=128+4*(k:Int)+1:=by rw[aH];omega
 have w2:IntKind.i64.wrap (128+4*(k:Int)+2)=128+4*(k:Int)+2:=by rw[aH];omega
 go_enter func250,ntmps250;go_wp2;go_region_held3 (λw'=>w'.cell? ⟨g,o+(128+4*k),G⟩=A (J au (gb m (128+4*k)))/\w'.cell? ⟨g,o+(128+4*k+1),G⟩=A (J au (gb m (128+4*k+1)))/\w'.cell? ⟨g,o+(128+4*k+2),G⟩=A (J au (gb m (128+4*k+2))))
  ((go_keep;done))
  (fail)
 all_goals
  go_wp2;refine Ξ (v:=.agg _) (by simp[results,results250,go_sem] <;> rfl) D ⟨qE ?_,?_⟩
  ·rw[bit0 _ (jJ ..),bit1 _ (jJ ..),bit7 _ (jJ ..)]
   unfold lnS clS kW hwS;rw[show 129+4*k=128+4*k+1 by omega,show 130+4*k=128+4*k+2 by omega,show 131+4*k=128+4*k+3 by omega]
  ·exact(stA (aR w) _).drew
theorem zwQ(m:List UInt8)(v:π)(g o c:Nat)(k y:Nat)(w:u)(h:Mm w m v g o c)(t:ru m y k=Γ)(B:y<8):Δ ω 251 #[ac #[J Q (lnS m k),J Q (clS m k),J au (kW m k),ν (decide (hwS m k%2=1)),ν (decide (hwS m k/2%2=1)),ν (decide (128<=hwS m k))],v,J Q y] w λe w'=>e=μ (ac #[J au (sdS m y k 0),J au (sdS m y k 1),J au (sdS m y k 2),J au (sdS m y k 3)])/\Below w.heap.size w w':=by
 unfold ru at t;have t:=du t;have H:=hid h;have z:kW m k<256:=jJ ..;by_cases n:hwS m k/2%2=1
 ·have j:rwS m y k=3-(y-lnS m k):=by unfold rwS;rw[am n]
  have f:((rwS m y k:Nat):Int)=3-((y:Int)-(lnS m k:Nat)):=by rw[j];omega
  have p:rwS m y k<4:=by rw[j];omega
  rw[aO n];have x:=hid f;by_cases d:hwS m k%2=1
  ·have a:∀ i,sdS m y k i=td m (kW m k) (3-i) (rwS m y k):=λi=>by unfold sdS;rw[am d]
   rw[aO d,a,a,a,a];clear h n d a j f;go_enter func251,ntmps251;go_wp2_with (first
    | (go_at_call 282;rw[<- x.out];refine(AN m v g o c (kW m k) (rwS m y k) _ (H.out.kept (stA (stA (aR w) _) _)) z p).mono ?_;rintro e w1 ⟨rfl,b⟩;obtain⟨k1,f1⟩:=cj b;have q:w.heap.size+1<w1.heap.size:=Θ (by simp) b.size;have z0:=cX q)
    | (go_at_call 284;refine(ziz _ _ _ _ _).mono ?_;rintro e w2 ⟨rfl,l⟩;obtain⟨k2,f2⟩:=cj l;have z2:w1.heap.size<w2.heap.size:=Θ (by simp) l.size;have z3:=mF q z2))
   have r:=Pl.fin [J au (td m (kW m k) 3 (rwS m y k)),J au (td m (kW m k) 2 (rwS m y k)),J au (td m (kW m k) 1 (rwS m y k)),J au (td m (kW m k) 0 (rwS m y k))] (wT _ _ _ 4 (w.heap.size+1) (by simp) D) (stA (stA (aR w) _) _) (bw (stA b _) l) (by simp) (by omega);exact Ξ (v:=.agg _) (by simp only[results,results251];simp;exact zfT _ _ _ _ _ _ r.2) D ⟨D,r.1⟩
  ·have a:∀ i,sdS m y k i=td m (kW m k) (i) (rwS m y k):=λi=>by unfold sdS;rw[ae d]
   rw[aG d,a,a,a,a];clear h n d a j f;go_enter func251,ntmps251;go_wp2_with (first
    | (go_at_call 282;rw[<- x.out];refine(AN m v g o c (kW m k) (rwS m y k) _ (H.out.kept (stA (stA (aR w) _) _)) z p).mono ?_;rintro e w1 ⟨rfl,b⟩;obtain⟨k1,f1⟩:=cj b;have q:w.heap.size+1<w1.heap.size:=Θ (by simp) b.size;have z0:=cX q))
   have r:=Pl.fin [J au (td m (kW m k) 0 (rwS m y k)),J au (td m (kW m k) 1 (rwS m y k)),J au (td m (kW m k) 2 (rwS m y k)),J au (td m (kW m k) 3 (rwS m y k))] (wT _ _ _ 4 (w.heap.size+1) (by simp) D) (stA (stA (aR w) _) _) b (by simp) (by omega);refine Pl.cutB (λW=>Below w.heap.size w W/\W.rangeAt (w.heap.size+1) 0 [J au (td m (kW m k) 0 (rwS m y k)),J au (td m (kW m k) 1 (rwS m y k)),J au (td m (kW m k) 2 (rwS m y k)),J au (td m (kW m k) 3 (rwS m y k))]) ⟨stA r.1 _,zqe r.2 (by rw[zd4];exact q) _⟩ ?_;rintro W ⟨s,n⟩;exact Ξ (v:=.agg _) (by simp only[results,results251];simp;exact zfT _ _ _ _ _ _ n) D ⟨D,s⟩
 ·have j:rwS m y k=y-lnS m k:=by unfold rwS;rw[ae n]
  have f:((rwS m y k:Nat):Int)=(y:Int)-(lnS m k:Nat):=by rw[j];omega
  have p:rwS m y k<4:=by rw[j];omega
  rw[aG n];have x:=hid f;by_cases d:hwS m k%2=1
  ·have a:∀ i,sdS m y k i=td m (kW m k) (3-i) (rwS m y k):=λi=>by unfold sdS;rw[am d]
   rw[aO d,a,a,a,a];clear h n d a j f;go_enter func251,ntmps251;go_wp2_with (first
    | (go_at_call 282;rw[<- x.out];refine(AN m v g o c (kW m k) (rwS m y k) _ (H.out.kept (stA (stA (aR w) _) _)) z p).mono ?_;rintro e w1 ⟨rfl,b⟩;obtain⟨k1,f1⟩:=cj b;have q:w.heap.size+1<w1.heap.size:=Θ (by simp) b.size;have z0:=cX q)
    | (go_at_call 284;refine(ziz _ _ _ _ _).mono ?_;rintro e w2 ⟨rfl,l⟩;obtain⟨k2,f2⟩:=cj l;have z2:w1.heap.size<w2.heap.size:=Θ (by simp) l.size;have z3:=mF q z2))
   have r:=Pl.fin [J au (td m (kW m k) 3 (rwS m y k)),J au (td m (kW m k) 2 (rwS m y k)),J au (td m (kW m k) 1 (rwS m y k)),J au (td m (kW m k) 0 (rwS m y k))] (wT _ _ _ 4 (w.heap.size+1) (by simp) D) (stA (stA (aR w) _) _) (bw (stA b _) l) (by simp) (by omega);exact Ξ (v:=.agg _) (by simp only[results,results251];simp;exact zfT _ _ _ _ _ _ r.2) D ⟨D,r.1⟩
  ·have a:∀ i,sdS m y k i=td m (kW m k) (i) (rwS m y k):=λi=>by unfold sdS;rw[ae d]
   rw[aG d,a,a,a,a];clear h n d a j f;go_enter func251,ntmps251;go_wp2_with (first
    | (go_at_call 282;rw[<- x.out];refine(AN m v g o c (kW m k) (rwS m y k) _ (H.out.kept (stA (stA (aR w) _) _)) z p).mono ?_;rintro e w1 ⟨rfl,b⟩;obtain⟨k1,f1⟩:=cj b;have q:w.heap.size+1<w1.heap.size:=Θ (by simp) b.size;have z0:=cX q))
   have r:=Pl.fin [J au (td m (kW m k) 0 (rwS m y k)),J au (td m (kW m k) 1 (rwS m y k)),J au (td m (kW m k) 2 (rwS m y k)),J au (td m (kW m k) 3 (rwS m y k))] (wT _ _ _ 4 (w.heap.size+1) (by simp) D) (stA (stA (aR w) _) _) b (by simp) (by omega);refine Pl.cutB (λW=>Below w.heap.size w W/\W.rangeAt (w.heap.size+1) 0 [J au (td m (kW m k) 0 (rwS m y k)),J au (td m (kW m k) 1 (rwS m y k)),J au (td m (kW m k) 2 (rwS m y k)),J au (td m (kW m k) 3 (rwS m y k))]) ⟨stA r.1 _,zqe r.2 (by rw[zd4];exact q) _⟩ ?_;rintro W ⟨s,n⟩;exact Ξ (v:=.agg _) (by simp only[results,results251];simp;exact zfT _ _ _ _ _ _ n) D ⟨D,s⟩
theorem zwR:(Tryz.prog.info? 3).map (λi=>(i.zero,i.size,i.bytes))=A (A (J Q 0),1,8):=by kernel_rfl
def ics(l:List Nat):List π:=l.map (λc:Nat=>Value.int Q (c:Int))
theorem zrK(a b:List Nat):ics a++ics b=ics (a++b):=by simp[ics]
theorem xR{ops:Array cG}{rest:List cG}{o:cG}{a:Act}{w:u}{η:Exit->Act->u->Prop}(i:o.guard=G)(s x:dk)(r:o.op=.call { callee:=.builtin .append,args:=#[s,x],argTypes:=#[222,222] })
 (B:Nat) (v:π) (xs:List Nat) (t:a.eval s=v) (b:w.ownsRow B 3 1 v xs.length (ics xs)) (g c:Nat) (y:Nat) (z:Int) (E:a.eval x=κ (A ⟨g,0,G⟩) 1 c) (hc:w.cell? ⟨g,0,G⟩=A (J Q z)) (F:z=y) (I:xs.length<=50000) (hB:B<=w.heap.size)
 (h:∀ v' w',w'.ownsRow B 3 1 v' (xs++[y]).length (ics (xs++[y]))->Below B w w'->dg ω ops η rest (a.put o.dst v') w'):dg ω ops η (o::rest) a w:=by
 obtain⟨i0,l,m,n,p⟩:=info_parts zwR;subst F;refine oQ _ i s x _ r B 3 i0 _ 1 8 underlying222 l m n p D (by omega) v xs.length (ics xs) t b ⟨g,0,G⟩ 1 c [J Q y] E D (λj θ f=>?_) (λθ q=>?_) (by unfold maxLen;omega) (by omega) hB ?_
 ·match j,f with
  | 0,f =>
   simp only[bv,aZ] at f;rw[<- f,addr_add];exact hc
 ·simp only[dD] at q;rw[q];rfl
 ·intro v' w' d e _
  refine h _ w' ?_ ((bq B w).grown e hB (λk H=>(b.lt k H).1));rw[az,<- zrK];exact d
theorem zuc(m:List UInt8)(y:Nat){j n:Nat}(h:j<=n):kq m y j <+: kq m y n:=by
 unfold kq;obtain⟨d,rfl⟩:=qN h;rw[List.range_add,gE];exact⟨_,D⟩
theorem zzm{m:List UInt8}{y j:Nat}(h:j<8)(h2:(kq m y j).length=2)(a:ru m y j=Γ):(kq m y 8).take 2=kq m y j/\decide (2<(kq m y 8).length)=Γ:=by
 have h1:=zuc m y (show j<=8 by omega);have h3:=zuc m y (show j+1<=8 by omega);have b:(kq m y (j+1)).length=3:=by rw[AM,am a];simp[h2]
 refine⟨?_,aO ?_⟩
 ·have:=qO.1 h1
  rw[h2] at this;exact this.symm
 ·have:=h3.length_le
  omega
theorem zud(m:List UInt8)(y k:Nat):decide ((lnS m k:Int)<=(y:Int)/\(y:Int)<(lnS m k:Int)+4)=ru m y k:=by
 unfold ru;rw[dW];omega
theorem vz(m:List UInt8)(k:Nat):0<=(lnS m k:Int)/\(lnS m k:Int)<=255:=by have:lnS m k<256:=jJ _ _;omega
theorem zj3{w:u}{B:Nat}{v:π}{n:Nat}{xs:List π}(h:w.ownsRow B 3 1 v n xs):∃ a c,v=κ a n c:=by
 rcases h.2 with⟨rfl,rfl⟩|⟨g,b,d,rfl,_⟩
 ·exact⟨_,_,D⟩
 ·exact⟨_,_,D⟩
theorem xt{w w':u}{B:Nat}{v:π}{n:Nat}{xs:List π}(h:w.ownsRow B 3 1 v n xs)(hb:Below w.heap.size w w'):w'.ownsRow B 3 1 v n xs:=by
 refine⟨h.1,?_⟩;rcases h.2 with h2|⟨g,a,b,rfl,c,d,r⟩
 ·exact Or.inl h2
 ·exact Or.inr ⟨g,a,b,D,c,(hb.block g (aa.1 d).1).trans d,r⟩
theorem zue(m:List UInt8)(v:π)(g o c:Nat)(y:Nat)(w:u)(h:Mm w m v g o c)(U:y<8):Δ ω 249 #[v,J Q y] w λe w'=>∃ s,e=μ (Ψ #[s,ν (decide (2<(kq m y 8).length))])/\w'.ownsRow w.heap.size 3 1 s ((kq m y 8).take 2).length (ics ((kq m y 8).take 2))/\Below w.heap.size w w':=by
 have H:=hid h;clear h;go_enter func249,ntmps249;go_wp2;go_loopw [4,7] (λs i wr=>∃ j:Nat,j<=8/\i=J Q j/\(kq m y j).length<=2/\wr.ownsRow w.heap.size 3 1 s (kq m y j).length (ics (kq m y j))/\Below w.heap.size w wr) (λ_ i _=>8-(aU i).toNat)
 case atStart=>exact⟨0,bh _,D,by simp[kq],⟨D,Or.inl ⟨D,D⟩⟩,aR w⟩
 case round =>
  obtain⟨j,V,rfl,h2,d,q⟩:=hrel;have B:=hid d;have l:=hid q;obtain⟨sa,P,rfl⟩:=zj3 d;clear d q;by_cases p:j<8
  ·have R:(j:Int)<8:=by omega
   cases k:ru m y j with
   | false =>
    have r:bG (kq m y (j+1)=kq m y j):=by rw[AM,k];rfl
    have f:=hid k;clear k;go_wp2_with (first
     | (go_at_call 250;refine(zcx m v g o c j _ (H.out.kept l.out) p).mono ?_;rintro e w1 ⟨rfl,a⟩)
     | (go_at_call 283;refine(zfc _ _ _ _ _ _ _ _ (vz m j)).mono ?_;rw[zud,f.out];rintro e w2 ⟨rfl,b⟩))
    go_round
    case rel=>exact⟨j+1,p,by go_num,by rw[r.out];exact h2,by rw[r.out];exact xt (xt B.out a) b,bw (bw l.out a) b⟩
    case measure=>simp[aU];omega
   | true =>
    by_cases E:(kq m y j).length=2
    ·have t:=hid (zzm p E k)
     have F:(((kq m y j).length:Int) == 2)=Γ:=by rw[E];rfl
     have f:=hid k;clear k E;go_wp2_with (first
      | (go_at_call 250;refine(zcx m v g o c j _ (H.out.kept l.out) p).mono ?_;rintro e w1 ⟨rfl,a⟩)
      | (go_at_call 283;refine(zfc _ _ _ _ _ _ _ _ (vz m j)).mono ?_;rw[zud,f.out];rintro e w2 ⟨rfl,b⟩))
     refine Ξ (v:=Ψ #[κ sa (kq m y j).length P,ν Γ]) (by simp[results,results249,go_sem]) D ?_;rw[t.out.1,t.out.2];exact⟨_,D,xt (xt B.out a) b,bw (bw l.out a) b⟩
    ·have r:bG (kq m y (j+1)=kq m y j++[j]):=by rw[AM,k];rfl
     have F:(((kq m y j).length:Int) == 2)=ξ:=by simp;omega
     have I:bG ((kq m y j++[j]).length<=2):=by simp only[az,nf];unfold bG;omega
     have x:(kq m y j).length<=50000:=by omega
     have L:=hid x;have f:=hid k;clear k E x;go_wp2_with (first
      | (go_at_call 250;refine(zcx m v g o c j _ (H.out.kept l.out) p).mono ?_;rintro e w1 ⟨rfl,a⟩)
      | (go_at_call 283;refine(zfc _ _ _ _ _ _ _ _ (vz m j)).mono ?_;rw[zud,f.out];rintro e w2 ⟨rfl,b⟩;have M:=hid (xt (xt B.out a) b);have z:=hid (bw (bw l.out a) b))
      | (at_builtin;refine xR (by rfl) _ _ (by rfl) w.heap.size _ (kq m y j) (by rfl) (xt M.out (stA (aR w2) _)) w2.heap.size 1 j j (by rfl) (Pl.new _ _ _ _ D) D L.out (ax z.out.size (by simp)) ?_;intro v' w' n N))
     go_round
     case rel=>exact⟨j+1,p,by go_num,by rw[r.out];exact I.out,by rw[r.out];exact n,(stA z.out _).trans N⟩
     case measure=>simp[aU];omega
  ·have W:¬ (j:Int)<8:=by omega
   have T:j=8:=by omega
   subst T;have t:bG ((kq m y 8).take 2=kq m y 8/\decide (2<(kq m y 8).length)=ξ):=⟨dY h2,aG (by omega)⟩
   go_wp2;refine Ξ (v:=Ψ #[κ sa (kq m y 8).length P,ν ξ]) (by simp[results,results249,go_sem]) D ?_;rw[t.out.1,t.out.2];exact⟨_,D,B.out,l.out⟩
theorem zuf{W:u}{b rb:Nat}{L R:List π}(hb:Bx W b L)(h:Bx W rb R)(o a d e n:Nat)(ty:TypeId)(i:n=R.length)(l:o+R.length<=L.length)(k:R.length<=a)(h1:∀ v∈R,v.oneCell'=Γ):(qt #[26,26] ty #[κ (A ⟨b,o,G⟩) a d,κ (A ⟨rb,0,G⟩) n e]).run ω W=.ok (goInt R.length) (W.setCells b o R):=by
 subst i;refine run_copy_cells W 26 26 ty 5 b o a d ⟨rb,0,G⟩ R.length e R underlying26 (by kernel_rfl) (jv k).symm (λj v g=>?_) (λj g=>?_) (λj g=>hb.f _) h1
 ·rw[addr_add];exact h.c j v g
 ·rw[hb.at (o+j) _ (aq (by omega))];rfl
theorem sy:(Tryz.prog.info? 66).map (·.size)=A 16:=by kernel_rfl
theorem zug(f:Nat->Nat):(bE f).toArray.all (·.oneCell')=Γ:=by
 refine all_oneCell_toArray λv a=>?_
 unfold bE at a;rw[gc] at a;obtain⟨x,_,rfl⟩:=a;rfl
theorem zrL(ζ B vs:List π)(h:vs.length=B.length):kr (ζ++B) ζ.length vs=ζ++vs:=by
 induction vs generalizing ζ B with
 | nil=>cases B with
  | nil=>rfl
  | cons b B=>cases h
 | cons v vs a=>cases B with
  | nil=>cases h
  | cons b B =>
   have:=a (ζ++[v]) B (by simpa using h);simp only[bK,List.singleton_append,az,nf] at this;rw[kr,<- this];congr 1;rw[nb _ _ (ψ _)];simp
theorem Bx.all{W:u}{b:Nat}{L:List π}(h:Bx W b L)(vs:List π)(a:vs.length=L.length):Bx (W.setCells b 0 vs) b vs:=by
 have:=h.puts 0 vs (by omega)
 rwa [show kr L 0 vs=vs from zrL [] L vs a] at this
theorem vj{ops:Array cG}{rest:List cG}{op:cG}{a:Act}{w:u}{η:Exit->Act->u->Prop}(d:op.guard=G)(x:dk)(e:op.op=.load 66 x)(b:Nat)(f:Nat->Nat)(g:a.eval x=.pointer (A ⟨b,0,G⟩))(hb:Bx w b (bE f))
 (h:dg ω ops η rest (a.put op.dst (ac (bE f).toArray)) w):dg ω ops η (op::rest) a w :=
 wpList_load_mid d 66 x e b 0 g (bE f) _ hb.c underlying66 rfl (by rw[pw];exact sy) h
theorem tx{ops:Array cG}{rest:List cG}{op:cG}{a:Act}{w:u}{η:Exit->Act->u->Prop}(c:op.guard=G)(x z:dk)(d:op.op=.store 66 x z)(b:Nat)(f e:Nat->Nat)(g:a.eval x=.pointer (A ⟨b,0,G⟩))(i:a.eval z=ac (bE f).toArray)(hb:Bx w b (bE e))
 (h:∀ w',w'=w.setCells b 0 (bE f)->Bx w' b (bE f)->dg ω ops η rest (a.put op.dst undef) w'):dg ω ops η (op::rest) a w:=by
 refine wpList_store_mid c 66 x z d b 0 (bE f).toArray g i ?_ (by simp only[jQ,pw];exact sy) (zug f) ?_
 ·simp only[jQ,pw];exact hb.there 0 16 (by rw[pw];omega)
 ·exact h _ D (hb.all _ (by rw[pw,pw]))
theorem vk{W:u}{b:Nat}{f:Nat->Nat}(h:Bx W b (bE f)):(bC 66 ⟨b,0,G⟩).run ω W=.ok (ac (bE f).toArray) W :=
 run_loadVar_mid W b 0 66 _ _ h.c underlying66 rfl (by rw[pw];exact sy)
theorem zrM(m:List UInt8)(ι n:Nat)(c:n<4):kr (bE (λX=>if X<4*n then g16 m ι X else 0)) (4*n) [J au (td m (gb m (ι/4*4+n)) 0 (ι%4)),J au (td m (gb m (ι/4*4+n)) 1 (ι%4)),J au (td m (gb m (ι/4*4+n)) 2 (ι%4)),J au (td m (gb m (ι/4*4+n)) 3 (ι%4))]=bE (λX=>if X<4*(n+1) then g16 m ι X else 0):=by
 simp only[kr];rw[yt _ _ _ (by omega),yt _ _ _ (by omega),yt _ _ _ (by omega),yt _ _ _ (by omega)];apply zP;intro X d;have h:∀ i,i<4->td m (gb m (ι/4*4+n)) i (ι%4)=g16 m ι (4*n+i):=λi hi=>by
  unfold g16;rw[show (4*n+i)/4=n by omega,show (4*n+i)%4=i by omega]
 rw[h 0 (by omega),h 1 (by omega),h 2 (by omega),h 3 (by omega)];by_cases e3:X=4*n+1+1+1
 ·subst e3;simp;intro;omega
 ·by_cases e2:X=4*n+1+1
  ·subst e2;simp;intro;omega
  ·by_cases e1:X=4*n+1
   ·subst e1;simp;intro;omega
   ·by_cases b:X=4*n
    ·subst b
     rw[ae e3,ae e2,ae e1,am D,am (by omega)];rfl
    ·simp only[ae e3,ae e2,ae e1,ae b]
     by_cases a:X<4*n
     ·rw[am a,am (by omega)]
     ·rw[ae a,ae (by omega)]
structure GdW (w : u) (m : List UInt8) (ι n : Nat) (W : u) : Prop where
 low:Below w.heap.size w W
 r:Bx W w.heap.size (bE λ_=>0)
 g:Bx W (w.heap.size+1) (bE λX=>if X<4*n then g16 m ι X else 0)
section
variable {w W w1 : u} {m : List UInt8} {ι n : Nat}
theorem GdW.kept(h:GdW w m ι n W)(hb:Below W.heap.size W w1):GdW w m ι n w1:=⟨bw h.low hb,h.r.kept hb,h.g.kept hb⟩
theorem GdW.over(h:GdW w m ι n W)(o:Obj):GdW w m ι n (W.alloc o):=h.kept (stA (aR W) o)
theorem GdW.drew(h:GdW w m ι n W):GdW w m ι n W.drew:=⟨h.low.drew,h.r.drew,h.g.drew⟩
theorem GdW.put(h:GdW w m ι n W)(a:n<4):GdW w m ι (n+1) (W.setCells (w.heap.size+1) (4*n) [J au (td m (gb m (ι/4*4+n)) 0 (ι%4)),J au (td m (gb m (ι/4*4+n)) 1 (ι%4)),J au (td m (gb m (ι/4*4+n)) 2 (ι%4)),J au (td m (gb m (ι/4*4+n)) 3 (ι%4))]) :=
 ⟨Bl.puts h.low (by omega) _,h.r.fars (by omega) _ _,zrM m ι n a ▸ h.g.puts (4*n) _ (by rw[pw];simp;omega)⟩
end
structure SnW (w : u) (m : List UInt8) (y x bs : Nat) (W : u) : Prop where
 low:Below w.heap.size w W
 r:Bx W w.heap.size (bE λ_=>0)
 g:Bx W (w.heap.size+1) (bE (g16 m ((y+gb m 169)%16)))
 s:Bx W bs (bE λi=>if i<x then gd m y i else 0)
 far:w.heap.size+1<bs
theorem SnW.put{w W:u}{m:List UInt8}{y x bs:Nat}(h:SnW w m y x bs W)(b:x<16):SnW w m y (x+1) bs (W.setCell ⟨bs,x,G⟩ (J au (g16 m ((y+gb m 169)%16) ((x+gb m 168)%16)))):=by
 have c:=h.far;refine⟨Bl.set h.low (by omega) _,h.r.far (by omega) _,h.g.far (by omega) _,?_,c⟩;have:=h.s.set x (J au (gd m y x)) (by rw[pw];exact b);rw[yt _ _ _ b] at this
 rwa [zP (g:=λi=>if i<x+1 then gd m y i else 0) (λi hi=>?_)] at this
 by_cases e:i=x
 ·subst e;simp
 ·simp only[ae e]
  by_cases a:i<x
  ·rw[am a,am (by omega)]
  ·rw[ae a,ae (by omega)]
theorem zrN(m:List UInt8)(v:π)(g o c:Nat)(y:Nat)(w:u)(h:Mm w m v g o c)(hy:y<8):Δ ω 248 #[v,J Q y] w λe w'=>e=μ (ac (bE (gd m y)).toArray)/\Below w.heap.size w w':=by
 have H:=hid h;obtain⟨rfl,B,hz,hc⟩:=h;have h1:=hc 169 (by omega);have hb:=jJ m 169;obtain⟨ι,j⟩:∃ ι,ι=(y+gb m 169)%16:=⟨_,D⟩
 have U:((y:Int)+(gb m 169:Nat))%16=(ι:Int):=by omega
 have HY:=hid j;have HE:=hid U;have hYl:ι<16:=by omega
 clear hc U;go_enter func248,ntmps248;go_wp2;rw[HE.out];clear j hb h1 B;go_loopw [18] (λi wr=>∃ n:Nat,n<=4/\i=J Q n/\GdW w m ι n wr) (λi _=>4-(aU i).toNat)
 case atStart=>exact⟨0,bh _,D,stA (stA (aR w) _) _,(Bx.new w (bE λ_=>0) _ D).over _,Bx.new _ (bE λ_=>0) _ (by simp)⟩
 case round =>
  obtain⟨n,hn,rfl,E⟩:=hrel;have d:=hid E;have V:=hid (H.out.kept E.low);clear E;by_cases h4:n<4
  ·have h4':(n:Int)<4:=by omega
   have hc:=V.out.c (ι/4*4+n) (by omega);have F:=jJ m (ι/4*4+n);have ym:ι%4<4:=j8 _ (by decide);go_wp2_with (first
    | (go_at_call 282;refine(AN m _ g o c (gb m (ι/4*4+n)) (ι%4) _ V.out F ym).mono ?_;rintro e w1 ⟨rfl,k⟩))
   obtain⟨I,hcp,l⟩:∃ I,(qt #[26,26] 3 #[κ (A ⟨w.heap.size+1,4*n,G⟩) (16-4*n) (16-4*n),κ (A ⟨w1.heap.size,0,G⟩) 4 4]).run ω (w1.alloc (χ #[J au (td m (gb m (ι/4*4+n)) 0 (ι%4)),J au (td m (gb m (ι/4*4+n)) 1 (ι%4)),J au (td m (gb m (ι/4*4+n)) 2 (ι%4)),J au (td m (gb m (ι/4*4+n)) 3 (ι%4))] 317)).drew=.ok (J Q 4) I/\GdW w m ι (n+1) I :=
    ⟨_,zuf ((d.out.kept k).over _).drew.g (Bx.new w1 [J au (td m (gb m (ι/4*4+n)) 0 (ι%4)),J au (td m (gb m (ι/4*4+n)) 1 (ι%4)),J au (td m (gb m (ι/4*4+n)) 2 (ι%4)),J au (td m (gb m (ι/4*4+n)) 3 (ι%4))] 317 D).drew (4*n) _ _ _ _ _ D (by rw[pw];simp;omega) (by simp;omega) (by simp[Value.oneCell']),((d.out.kept k).over _).drew.put h4⟩
   have L:=hid l;clear l;have q0:(0:Int)<=(n:Int)*4:=by omega
   have q1:(n:Int)*4<=16:=by omega
   have q2:((n:Int)*4).toNat=4*n:=by omega
   have q3:IntKind.i64.wrap ((n:Int)*4)=(n:Int)*4:=by rw[aH];omega
   have q4:¬ (16=4*n):=by omega
   go_region
   go_wp2;exact⟨⟨n+1,h4,by go_num,L.out⟩,by simp[aU];omega⟩
  ·have h9:¬ (n:Int)<4:=by omega
   have e4:n=4:=by omega
   subst e4;have j:ι=(y+gb m 169)%16:=HY.out;have Z:=jJ m 168;have p:bG (SnW w m y 0 wr.heap.size (wr.alloc (χ (bE λ_=>0).toArray 66))):=by
    refine⟨stA d.out.low _,d.out.r.over _,?_,Bx.new wr (bE λ_=>0) _ D,d.out.g.z⟩;have:=d.out.g.over (χ (bE λ_=>0).toArray 66);rw[j] at this
    rwa [zP (λX hX=>am (show X<4*4 by omega))] at this
   clear h4 hn h9 j;go_wp2;go_loopw [39] (λi W=>∃ x:Nat,x<=16/\i=J Q x/\SnW w m y x wr.heap.size W) (λi _=>16-(aU i).toNat)
   case atStart=>exact⟨0,bh _,D,p.out⟩
   case round =>
    obtain⟨x,hx,rfl,hS⟩:=hrel;have a:=hid hS;clear hS p;by_cases b:x<16
    ·have h16':(x:Int)<16:=by omega
     have c0:=(H.out.kept a.out.low).c 168 (by omega);have c1:=a.out.g.at ((x+gb m 168)%16) _ (tN _ (j8 _ (by decide)));have c2:=a.out.s.at x _ (tN _ b);have f2:=a.out.s.f x;go_wp2;exact⟨⟨x+1,b,by go_num,a.out.put b⟩,by simp[aU];omega⟩
    ·have h17:¬ (x:Int)<16:=by omega
     have M:x=16:=by omega
     subst M;have N:=a.out.s;rw[zP (λX hX=>am hX)] at N;have P:=hid N;clear N;go_wp2_with (first
      | (refine vj D _ D _ _ D P.out ?_)
      | (refine tx D _ _ D w.heap.size (gd m y) _ D D a.out.r ?_;rintro w' q t;have R:=hid t;have T:=hid q;clear t q))
     have B:=vk R.out;refine Ξ (v:=ac (bE (gd m y)).toArray) ?_ D ⟨D,?_⟩
     ·simp only[results,results248]
      simp;exact B
     ·rw[T.out];exact Bl.puts a.out.low (ψ _) _
theorem zzn(f:Nat->Nat)(w:u):(aK 66 (ac (bE f).toArray) (J Q 0)).run ω w=.ok (J au (f 0)) w:=by kernel_rfl
theorem zzo(f:Nat->Nat)(w:u):(aK 66 (ac (bE f).toArray) (J Q 1)).run ω w=.ok (J au (f 1)) w:=by kernel_rfl
theorem zzp(f:Nat->Nat)(w:u):(aK 66 (ac (bE f).toArray) (J Q 2)).run ω w=.ok (J au (f 2)) w:=by kernel_rfl
theorem zzq(f:Nat->Nat)(w:u):(aK 66 (ac (bE f).toArray) (J Q 3)).run ω w=.ok (J au (f 3)) w:=by kernel_rfl
theorem zzr(f:Nat->Nat)(w:u):(aK 66 (ac (bE f).toArray) (J Q 4)).run ω w=.ok (J au (f 4)) w:=by kernel_rfl
theorem zzs(f:Nat->Nat)(w:u):(aK 66 (ac (bE f).toArray) (J Q 5)).run ω w=.ok (J au (f 5)) w:=by kernel_rfl
theorem zzt(f:Nat->Nat)(w:u):(aK 66 (ac (bE f).toArray) (J Q 6)).run ω w=.ok (J au (f 6)) w:=by kernel_rfl
theorem zzu(f:Nat->Nat)(w:u):(aK 66 (ac (bE f).toArray) (J Q 7)).run ω w=.ok (J au (f 7)) w:=by kernel_rfl
theorem zzv(f:Nat->Nat)(w:u):(aK 66 (ac (bE f).toArray) (J Q 8)).run ω w=.ok (J au (f 8)) w:=by kernel_rfl
theorem zzw(f:Nat->Nat)(w:u):(aK 66 (ac (bE f).toArray) (J Q 9)).run ω w=.ok (J au (f 9)) w:=by kernel_rfl
theorem zwS(f:Nat->Nat)(w:u):(aK 66 (ac (bE f).toArray) (J Q 10)).run ω w=.ok (J au (f 10)) w:=by kernel_rfl
theorem zwT(f:Nat->Nat)(w:u):(aK 66 (ac (bE f).toArray) (J Q 11)).run ω w=.ok (J au (f 11)) w:=by kernel_rfl
theorem zwU(f:Nat->Nat)(w:u):(aK 66 (ac (bE f).toArray) (J Q 12)).run ω w=.ok (J au (f 12)) w:=by kernel_rfl
theorem zwV(f:Nat->Nat)(w:u):(aK 66 (ac (bE f).toArray) (J Q 13)).run ω w=.ok (J au (f 13)) w:=by kernel_rfl
theorem zwW(f:Nat->Nat)(w:u):(aK 66 (ac (bE f).toArray) (J Q 14)).run ω w=.ok (J au (f 14)) w:=by kernel_rfl
theorem zwX(f:Nat->Nat)(w:u):(aK 66 (ac (bE f).toArray) (J Q 15)).run ω w=.ok (J au (f 15)) w:=by kernel_rfl
theorem CD(f:Nat->Nat)(x:Nat)(h:x<16)(w:u):(aK 66 (ac (bE f).toArray) (J Q (x:Nat))).run ω w=.ok (J au (f x)) w:=by
 have a:x=0 \/ x=1 \/ x=2 \/ x=3 \/ x=4 \/ x=5 \/ x=6 \/ x=7 \/ x=8 \/ x=9 \/ x=10 \/ x=11 \/ x=12 \/ x=13 \/ x=14 \/ x=15:=by omega
 rcases a with rfl|rfl|rfl|rfl|rfl|rfl|rfl|rfl|rfl|rfl|rfl|rfl|rfl|rfl|rfl|rfl
 ·exact zzn f w
 ·exact zzo f w
 ·exact zzp f w
 ·exact zzq f w
 ·exact zzr f w
 ·exact zzs f w
 ·exact zzt f w
 ·exact zzu f w
 ·exact zzv f w
 ·exact zzw f w
 ·exact zwS f w
 ·exact zwT f w
 ·exact zwU f w
 ·exact zwV f w
 ·exact zwW f w
 ·exact zwX f w
theorem zBk(f:Nat->Nat)(w:u):(aK 317 (ac #[J au (f 0),J au (f 1),J au (f 2),J au (f 3)]) (J Q 0)).run ω w=.ok (J au (f 0)) w:=by kernel_rfl
theorem zBl(f:Nat->Nat)(w:u):(aK 317 (ac #[J au (f 0),J au (f 1),J au (f 2),J au (f 3)]) (J Q 1)).run ω w=.ok (J au (f 1)) w:=by kernel_rfl
theorem zBm(f:Nat->Nat)(w:u):(aK 317 (ac #[J au (f 0),J au (f 1),J au (f 2),J au (f 3)]) (J Q 2)).run ω w=.ok (J au (f 2)) w:=by kernel_rfl
theorem zBn(f:Nat->Nat)(w:u):(aK 317 (ac #[J au (f 0),J au (f 1),J au (f 2),J au (f 3)]) (J Q 3)).run ω w=.ok (J au (f 3)) w:=by kernel_rfl
theorem idx4(f:Nat->Nat)(x:Nat)(h:x<4)(w:u):(aK 317 (ac #[J au (f 0),J au (f 1),J au (f 2),J au (f 3)]) (J Q (x:Nat))).run ω w=.ok (J au (f x)) w:=by
 have a:x=0 \/ x=1 \/ x=2 \/ x=3:=by omega
 rcases a with rfl|rfl|rfl|rfl
 ·exact zBk f w
 ·exact zBl f w
 ·exact zBm f w
 ·exact zBn f w
structure P0W (w : u) (m : List UInt8) (y bg bo : Nat) (fo : Nat -> Nat) (W : u) : Prop where
 low:Below w.heap.size w W
 r:Bx W w.heap.size (bE λ_=>0)
 g:Bx W bg (bE (gd m y))
 o:Bx W bo (bE fo)
 d1:w.heap.size<bg
 d2:bg<bo
structure PxW (w : u) (m : List UInt8) (y bg bo bt : Nat) (fo : Nat -> Nat) (ft : Nat -> Bool) (W : u) : Prop extends P0W w m y bg bo fo W where
 t:Bx W bt (kE ft)
 d3:bo<bt
section
variable {w W w1 : u} {m : List UInt8} {y bg bo bt : Nat} {fo fo' : Nat -> Nat} {ft ft' : Nat -> Bool}
theorem P0W.kept(h:P0W w m y bg bo fo W)(hb:Below W.heap.size W w1):P0W w m y bg bo fo w1:=⟨bw h.low hb,h.r.kept hb,h.g.kept hb,h.o.kept hb,h.d1,h.d2⟩
theorem P0W.over(h:P0W w m y bg bo fo W)(o:Obj):P0W w m y bg bo fo (W.alloc o):=h.kept (stA (aR W) o)
theorem P0W.congr(h:P0W w m y bg bo fo W)(e:∀ x,x<16->fo x=fo' x):P0W w m y bg bo fo' W:=⟨h.low,h.r,h.g,zP e ▸ h.o,h.d1,h.d2⟩
theorem P0W.put(h:P0W w m y bg bo fo W)(x n:Nat)(a:x<16):P0W w m y bg bo (λi=>if i=x then n else fo i) (W.setCell ⟨bo,x,G⟩ (J au n)):=by
 have h1:=h.d1;have h2:=h.d2;exact⟨Bl.set h.low (by omega) _,h.r.far (by omega) _,h.g.far (by omega) _,yt fo x n a ▸ h.o.set x (J au n) (by rw[pw];exact a),h1,h2⟩
theorem PxW.kept(h:PxW w m y bg bo bt fo ft W)(hb:Below W.heap.size W w1):PxW w m y bg bo bt fo ft w1:=⟨h.toP0W.kept hb,h.t.kept hb,h.d3⟩
theorem PxW.over(h:PxW w m y bg bo bt fo ft W)(o:Obj):PxW w m y bg bo bt fo ft (W.alloc o):=h.kept (stA (aR W) o)
theorem PxW.congr(h:PxW w m y bg bo bt fo ft W)(e:∀ x,x<16->fo x=fo' x)(a:∀ x,x<16->ft x=ft' x):PxW w m y bg bo bt fo' ft' W:=⟨h.toP0W.congr e,zlL a ▸ h.t,h.d3⟩
theorem PxW.take(h:PxW w m y bg bo bt fo ft W)(x:Nat)(a:x<16):PxW w m y bg bo bt fo (λi=>if i=x then Γ else ft i) (W.setCell ⟨bt,x,G⟩ (ν Γ)):=by
 have h1:=h.d1;have h2:=h.d2;have h3:=h.d3;exact⟨⟨Bl.set h.low (by omega) _,h.r.far (by omega) _,h.g.far (by omega) _,h.o.far (by omega) _,h1,h2⟩,zrJ ft x Γ a ▸ h.t.set x (ν Γ) (by rw[zdI];exact a),h3⟩
theorem PxW.put(h:PxW w m y bg bo bt fo ft W)(x n:Nat)(a:x<16):PxW w m y bg bo bt (λi=>if i=x then n else fo i) ft (W.setCell ⟨bo,x,G⟩ (J au n)):=by
 have h3:=h.d3;exact⟨h.toP0W.put x n a,h.t.far (by omega) _,h3⟩
end
def pf(m:List UInt8)(y:Nat)(ks:List Nat)(k i x:Nat):Nat:=if clS m k<=x/\x<clS m k+i then oh m y (ks++[k]) x else oh m y ks x
def pg(m:List UInt8)(y:Nat)(ks:List Nat)(k i x:Nat):Bool:=if clS m k<=x/\x<clS m k+i then oB m y (ks++[k]) x else oB m y ks x
section
variable {m : List UInt8} {y : Nat} {ks : List Nat} {k i : Nat}
theorem zwY(x:Nat):pf m y ks k 0 x=oh m y ks x:=by unfold pf;rw[ae (by omega)]
theorem zwZ(x:Nat):pg m y ks k 0 x=oB m y ks x:=by unfold pg;rw[ae (by omega)]
theorem sQ(hi:i<4):sxS m y k (clS m k+i)=sdS m y k i:=by
 unfold sxS;rw[am (by omega),show clS m k+i-clS m k=i by omega]
theorem zqf{x:Nat}(h:¬ (clS m k<=x/\x<clS m k+4)):sxS m y k x=0:=by unfold sxS;rw[ae h]
theorem zw0(x:Nat):pf m y ks k 4 x=oh m y (ks++[k]) x:=by
 unfold pf;split
 ·rfl
 ·rename_i h
  exact(zeG (zqf h)).symm
theorem zw1(x:Nat):pg m y ks k 4 x=oB m y (ks++[k]) x:=by
 unfold pg;split
 ·rfl
 ·rename_i h
  rw[zO,zqf h];simp
theorem AQ(x:Nat):pf m y ks k (i+1) x=if x=clS m k+i then oh m y (ks++[k]) x else pf m y ks k i x:=by
 unfold pf;by_cases e:x=clS m k+i
 ·rw[am e,am (by omega)]
 ·rw[ae e]
  by_cases h:clS m k<=x/\x<clS m k+i
  ·rw[am h,am (by omega)]
  ·rw[ae h,ae (by omega)]
theorem AR(x:Nat):pg m y ks k (i+1) x=if x=clS m k+i then oB m y (ks++[k]) x else pg m y ks k i x:=by
 unfold pg;by_cases e:x=clS m k+i
 ·rw[am e,am (by omega)]
 ·rw[ae e]
  by_cases h:clS m k<=x/\x<clS m k+i
  ·rw[am h,am (by omega)]
  ·rw[ae h,ae (by omega)]
theorem zuh:pf m y ks k i (clS m k+i)=oh m y ks (clS m k+i):=by unfold pf;rw[ae (by omega)]
theorem zui:pg m y ks k i (clS m k+i)=oB m y ks (clS m k+i):=by unfold pg;rw[ae (by omega)]
theorem zw2(h:16<=clS m k+i):(∀ x,x<16->pf m y ks k i x=pf m y ks k (i+1) x)/\(∀ x,x<16->pg m y ks k i x=pg m y ks k (i+1) x) :=
 ⟨λx a=>by rw[AQ,ae (by omega)],λx a=>by rw[AR,ae (by omega)]⟩
theorem zzx(hi:i<4)(h:sdS m y k i=0):(∀ x,x<16->pf m y ks k i x=pf m y ks k (i+1) x)/\(∀ x,x<16->pg m y ks k i x=pg m y ks k (i+1) x):=by
 have a:sxS m y k (clS m k+i)=0:=by rw[sQ hi];exact h
 refine⟨λx b=>?_,λx b=>?_⟩
 ·rw[AQ]
  by_cases e:x=clS m k+i
  ·rw[am e,e,zuh,zeG a]
  ·rw[ae e]
 ·rw[AR]
  by_cases e:x=clS m k+i
  ·rw[am e,e,zui,zO,a];simp
  ·rw[ae e]
theorem zw3(h:oB m y ks (clS m k+i)=Γ):(∀ x,x<16->pf m y ks k i x=pf m y ks k (i+1) x)/\(∀ x,x<16->pg m y ks k i x=pg m y ks k (i+1) x):=by
 refine⟨λx a=>?_,λx a=>?_⟩
 ·rw[AQ]
  by_cases e:x=clS m k+i
  ·rw[am e,e,zuh,zhe h]
  ·rw[ae e]
 ·rw[AR]
  by_cases e:x=clS m k+i
  ·rw[am e,e,zui,zO,h];simp
  ·rw[ae e]
theorem zuj(hi:i<4)(h:sdS m y k i≠0)(b:oB m y ks (clS m k+i)=ξ)(hb:128<=hwS m k)(c:gd m y (clS m k+i)≠0):(∀ x,x<16->pf m y ks k i x=pf m y ks k (i+1) x)/\(∀ x,x<16->(if x=clS m k+i then Γ else pg m y ks k i x)=pg m y ks k (i+1) x):=by
 have a:sxS m y k (clS m k+i)≠0:=by rw[sQ hi];exact h
 refine⟨λx d=>?_,λx d=>?_⟩
 ·rw[AQ]
  by_cases e:x=clS m k+i
  ·rw[am e,e,zuh,zfz b a,am ⟨hb,c⟩]
  ·rw[ae e]
 ·rw[AR]
  by_cases e:x=clS m k+i
  ·rw[am e,am e,e,zO];simp[a]
  ·rw[ae e,ae e]
theorem zuk(hi:i<4)(h:sdS m y k i≠0)(b:oB m y ks (clS m k+i)=ξ)(hb:¬ (128<=hwS m k/\gd m y (clS m k+i)≠0)):(∀ x,x<16->(if x=clS m k+i then gb m (164+sdS m y k i) else pf m y ks k i x)=pf m y ks k (i+1) x)/\(∀ x,x<16->(if x=clS m k+i then Γ else pg m y ks k i x)=pg m y ks k (i+1) x):=by
 have a:sxS m y k (clS m k+i)≠0:=by rw[sQ hi];exact h
 refine⟨λx c=>?_,λx c=>?_⟩
 ·rw[AQ]
  by_cases e:x=clS m k+i
  ·rw[am e,am e,e,zfz b a,ae hb,sQ hi]
  ·rw[ae e,ae e]
 ·rw[AR]
  by_cases e:x=clS m k+i
  ·rw[am e,am e,e,zO];simp[a]
  ·rw[ae e,ae e]
end
structure Lst (W : u) (gl : Nat) (ks : List Nat) : Prop where
 z:gl<W.heap.size
 c:∀ j k,ks[j]?=A k->W.cell? ⟨gl,j,G⟩=A (J Q (k:Nat))
theorem Lst.kept{W w1:u}{gl:Nat}{ks:List Nat}(h:Lst W gl ks)(hb:Below W.heap.size W w1):Lst w1 gl ks:=⟨Θ h.z hb.size,λj k a=>(hb.cell (p:=⟨gl,j,G⟩) h.z).trans (h.c j k a)⟩
theorem Lst.far{W:u}{gl:Nat}{ks:List Nat}(h:Lst W gl ks){b o:Nat}(a:b≠gl)(v:π):Lst (W.setCell ⟨b,o,G⟩ v) gl ks:=⟨by simpa using h.z,λj k d=>(World.cell?_setCell_far W _ _ v a).trans (h.c j k d)⟩
theorem Lst.of{W:u}{B:Nat}{v:π}{ks:List Nat}(h:W.ownsRow B 3 1 v ks.length (ics ks))(i:ks≠[]):∃ gl c,v=κ (A ⟨gl,0,G⟩) ks.length c/\B<=gl/\Lst W gl ks:=by
 rcases h.2 with⟨rfl,h2⟩|⟨g,b,a,rfl,hb,d,n,o,p,l⟩
 ·exact absurd (bM.1 h2) i
 ·refine⟨g,b,D,hb,(aa.1 d).1,λj k f=>?_⟩
  have m:=(ay.1 f).1;rw[Lib.cell_of_heap d j];have e:a[j]?=(a.toList.take (ks.length*1))[j]?:=by rw[gF,am (by omega)];simp
  rw[e,l,ics,bn,f];rfl
theorem P0W.init{w w1 w2:u}{m:List UInt8}{y:Nat}{t:TypeId}(a:Below (w.alloc (χ (bE λ_=>0).toArray t)).heap.size (w.alloc (χ (bE λ_=>0).toArray t)) w1)
 (b:w2=(w1.alloc (χ (bE λ_=>0).toArray t)).setCells w1.heap.size 0 (bE (gd m y))) (hB:Bx w2 w1.heap.size (bE (gd m y))) :
 P0W w m y w1.heap.size w2.heap.size (λi=>if i<0 then gb m (160+gd m y i) else 0) (w2.alloc (χ (bE λ_=>0).toArray t)):=by
 have c:w.heap.size<w1.heap.size:=Θ (by simp) a.size;refine⟨stA ?_ _,Bx.over ?_ _,hB.over _,?_,c,hB.z⟩
 ·rw[b];exact Bl.puts (stA (bw (stA (aR w) _) a) _) (by omega) _
 ·rw[b];exact(((Bx.new w (bE λ_=>0) t D).kept a).over _).fars (by omega) _ _
 ·exact Bx.new w2 (bE λ_=>0) t D
theorem P0W.step{w W:u}{m:List UInt8}{y bg bo x:Nat}(h:P0W w m y bg bo (λi=>if i<x then gb m (160+gd m y i) else 0) W)(b:x<16):P0W w m y bg bo (λi=>if i<x+1 then gb m (160+gd m y i) else 0) (W.setCell ⟨bo,x,G⟩ (J au (gb m (160+gd m y x)))):=by
 refine(h.put x _ b).congr λi hi=>?_
 by_cases e:i=x
 ·subst e;simp
 ·simp only[ae e]
  by_cases a:i<x
  ·rw[am a,am (by omega)]
  ·rw[ae a,ae (by omega)]
structure InW (w : u) (m : List UInt8) (y bg bo bt gl bs : Nat) (ks pre : List Nat) (k i : Nat) (W : u) : Prop extends PxW w m y bg bo bt (pf m y pre k i) (pg m y pre k i) W where
 s:Bx W bs (scS m k)
 d4:bt<bs
 l:Lst W gl ks
 d5:bt<gl
section
variable {w W w1 : u} {m : List UInt8} {y bg bo bt gl bs : Nat} {ks pre : List Nat} {k i : Nat}
theorem InW.same(h:InW w m y bg bo bt gl bs ks pre k i W)(e:(∀ x,x<16->pf m y pre k i x=pf m y pre k (i+1) x)/\(∀ x,x<16->pg m y pre k i x=pg m y pre k (i+1) x)):InW w m y bg bo bt gl bs ks pre k (i+1) W :=
 ⟨h.toPxW.congr e.1 e.2,h.s,h.d4,h.l,h.d5⟩
theorem InW.hid(h:InW w m y bg bo bt gl bs ks pre k i W)(a:clS m k+i<16)(e:(∀ x,x<16->pf m y pre k i x=pf m y pre k (i+1) x)/\(∀ x,x<16->(if x=clS m k+i then Γ else pg m y pre k i x)=pg m y pre k (i+1) x)):InW w m y bg bo bt gl bs ks pre k (i+1) (W.setCell ⟨bt,clS m k+i,G⟩ (ν Γ)):=by
 have h4:=h.d4;have b:=h.d5;exact⟨(h.toPxW.take _ a).congr e.1 e.2,h.s.far (by omega) _,h4,h.l.far (by omega) _,b⟩
theorem InW.seen(h:InW w m y bg bo bt gl bs ks pre k i W)(a:clS m k+i<16)(e:(∀ x,x<16->(if x=clS m k+i then gb m (164+sdS m y k i) else pf m y pre k i x)=pf m y pre k (i+1) x)/\(∀ x,x<16->(if x=clS m k+i then Γ else pg m y pre k i x)=pg m y pre k (i+1) x)):InW w m y bg bo bt gl bs ks pre k (i+1) ((W.setCell ⟨bt,clS m k+i,G⟩ (ν Γ)).setCell ⟨bo,clS m k+i,G⟩ (J au (gb m (164+sdS m y k i)))):=by
 have h3:=h.d3;have h4:=h.d4;have b:=h.d5;exact⟨((h.toPxW.take _ a).put _ _ a).congr e.1 e.2,(h.s.far (by omega) _).far (by omega) _,h4,(h.l.far (by omega) _).far (by omega) _,b⟩
end
theorem zrO(m:List UInt8)(v:π)(g o c:Nat)(y:Nat)(w:u)(h:Mm w m v g o c)(hy:y<8):Δ ω 202 #[v,J Q y] w λe w'=>e=μ (ac (bE (px m y)).toArray)/\Below w.heap.size w w':=by
 have H:=hid h;obtain⟨rfl,hl,hz,hc⟩:=h;obtain⟨ks,d⟩:∃ ks,ks=(kq m y 8).take 2:=⟨_,D⟩
 have HKs:bG (∀ k∈ks,k<8/\ru m y k=Γ):=λk T=>by rw[d] at T;exact⟨zx9 (ia T),zya (ia T)⟩
 have HPx:px m y=oh m y ks:=by funext x;rw[d];rfl
 have klen:ks.length<=2:=by rw[d,bD];omega
 rw[HPx];have HKe:=hid d;clear hc d HPx;go_enter func202,ntmps202;go_wp2_with (first
  | (go_at_call 248;refine(zrN m _ g o c y _ (H.out.kept (stA (aR w) _)) hy).mono ?_;rintro e w1 ⟨rfl,hb1⟩)
  | (refine tx D _ _ D w1.heap.size (gd m y) (λ_=>0) D D (Bx.new w1 (bE λ_=>0) _ D) ?_;rintro w2 hw2 hB2;have X:=hid hB2;have HW2:=hid hw2;clear hB2 hw2)
  | (refine vj D _ D w1.heap.size (gd m y) D (X.out.over _) ?_))
 have HP0:bG (P0W w m y w1.heap.size w2.heap.size (λi=>if i<0 then gb m (160+gd m y i) else 0) (w2.alloc (χ (bE λ_=>0).toArray 66))):=P0W.init hb1 HW2.out X.out;clear hb1 HW2 X;go_loopw [22] (λi wr=>∃ x:Nat,x<=16/\i=J Q x/\P0W w m y w1.heap.size w2.heap.size (λi=>if i<x then gb m (160+gd m y i) else 0) wr) (λi _=>16-(aU i).toNat)
 case atStart=>exact⟨0,bh _,D,HP0.out⟩
 case round =>
  clear HP0;obtain⟨x,hx,rfl,hP⟩:=hrel;have U:=hid hP;clear hP;by_cases p:x<16
  ·have h16':(x:Int)<16:=by omega
   have hd:=xQ m y x;have ix:=λW=>CD (gd m y) x p W
   have c0:=(H.out.kept U.out.low).c (160+gd m y x) (by omega);have c1:=U.out.o.at x _ (tN _ p);have f1:=U.out.o.f x;go_wp2;exact⟨⟨x+1,p,by go_num,U.out.step p⟩,by simp[aU];omega⟩
  ·have h17:¬ (x:Int)<16:=by omega
   have e16:x=16:=by omega
   subst e16;clear hx p h17;go_wp2_with (first
    | (go_at_call 249;refine(zue m _ g o c y _ (H.out.kept (stA U.out.low _)) hy).mono ?_;rw[<- HKe.out];rintro e w4 ⟨s,rfl,q,hb4⟩;have HOwn:=hid q;have HB4:=hid hb4;obtain⟨sa,sc,rfl⟩:=zj3 q;clear q hb4))
   have B:bG (PxW w m y w1.heap.size w2.heap.size wr.heap.size (oh m y []) (oB m y []) w4):=by
    have hb:=(U.out.over (χ (kE λ_=>ξ).toArray 310)).congr (fo':=oh m y []) (λx hx=>by rw[am hx];rfl);exact(⟨hb,Bx.new wr (kE λ_=>ξ) _ D,U.out.o.z⟩:PxW w m y w1.heap.size w2.heap.size wr.heap.size (oh m y []) (oB m y []) _).kept HB4.out
   obtain⟨bt,M⟩:∃ bt,bt=wr.heap.size:=⟨_,D⟩
   have HBt:=hid M;rw[<- M] at B;rw[<- M];clear U HB4 hz hl M;by_cases Z:ks=[]
   ·subst Z
    go_loopw [43] (λi W=>i=J Q 0/\PxW w m y w1.heap.size w2.heap.size bt (oh m y []) (oB m y []) W) (λ_ _=>0)
    case atStart=>exact⟨D,B.out⟩
    case round =>
     obtain⟨rfl,b⟩:=hrel;have E:=hid b;clear b B;go_wp2_with (first
      | (refine vj D _ D _ _ D E.out.o ?_)
      | (refine tx D _ _ D w.heap.size (oh m y []) _ D D E.out.r ?_;rintro w' F I;have HB':=hid I;have HW':=hid F;clear I F))
     have hl:=vk HB'.out;refine Ξ (v:=ac (bE (oh m y [])).toArray) ?_ D ⟨D,?_⟩
     ·simp only[results,results202]
      simp;exact hl
     ·rw[HW'.out];exact Bl.puts E.out.low (ψ _) _
   ·obtain⟨gl,lc,hse,hgl,V⟩:=Lst.of HOwn.out Z
    simp only[iQ] at hse;obtain⟨rfl,_,rfl⟩:=hse;have HL0:bG (bt<gl):=Θ (by rw[HBt.out];simp) hgl;have HLs:=hid V;clear HOwn hgl V Z;go_loopw [43] (λi W=>∃ j:Nat,j<=ks.length/\i=J Q j/\PxW w m y w1.heap.size w2.heap.size bt (oh m y (ks.take j)) (oB m y (ks.take j)) W/\Lst W gl ks) (λi _=>ks.length-(aU i).toNat)
    case atStart=>exact⟨0,bh _,D,B.out,HLs.out⟩
    case round =>
     clear B HLs;obtain⟨j,hj,rfl,b,hL⟩:=hrel;have E:=hid b;have HL:=hid hL;clear b hL;by_cases hjl:j<ks.length
     ·have hjl':(j:Int)<ks.length:=by omega
      obtain⟨k,T⟩:∃ k,ks[j]?=A k:=⟨ks[j],aq hjl⟩
      have HK:=hid (HKs.out k (bu T));have hcl:=HL.out.c j k T;have HJ:bG (ks.take (j+1)=ks.take j++[k]):=by rw[ek,T];rfl
      clear T;go_wp2_with (first
       | (go_at_call 250;refine(zcx m _ g o c k _ (H.out.kept E.out.low) HK.out.1).mono ?_;rintro e w5 ⟨rfl,hb5⟩;have N:=hid (E.out.kept hb5);have HL5:=hid (HL.out.kept hb5);clear hb5)
       | (go_at_call 251;refine(zwQ m _ g o c k y _ (H.out.kept (stA N.out.low _)) HK.out.2 hy).mono ?_;rintro e w6 ⟨rfl,hb6⟩;have P:=hid hb6;clear hb6))
      have HI0:bG (InW w m y w1.heap.size w2.heap.size bt gl w5.heap.size ks (ks.take j) k 0 w6) :=
       ⟨((N.out.over _).kept P.out).congr (λx _=>(zwY x).symm) (λx _=>(zwZ x).symm),(Bx.new w5 (scS m k) 314 D).kept P.out,N.out.t.z,(HL5.out.kept (stA (aR w5) _)).kept P.out,HL0.out⟩
      clear E HL N HL5 P hcl;go_loopw [54] (λi W=>∃ n:Nat,n<=4/\i=J Q n/\InW w m y w1.heap.size w2.heap.size bt gl w5.heap.size ks (ks.take j) k n W) (λi _=>4-(aU i).toNat)
      case atStart=>exact⟨0,bh _,D,HI0.out⟩
      case round =>
       clear HI0;obtain⟨n,hn,rfl,hI⟩:=hrel;have a:=hid hI;clear hI;by_cases h4:n<4
       ·have h4':(n:Int)<4:=by omega
        have ix:=λW=>idx4 (sdS m y k) n h4 W
        have hcb:clS m k<256:=jJ _ _;have s1:=a.out.s.at 1 _ D;by_cases hR:16<=clS m k+n
        ·have hR':(16:Int)<=(clS m k:Int)+n:=by omega
         go_wp2;exact⟨⟨n+1,h4,by go_num,a.out.same (zw2 hR)⟩,by simp[aU];omega⟩
        ·have hR':¬ (16:Int)<=(clS m k:Int)+n:=by omega
         have b:clS m k+n<16:=by omega
         have hsl:=zyb m y k n;by_cases hd:sdS m y k n=0
         ·have hd':((sdS m y k n:Int) == 0)=Γ:=by rw[hd];rfl
          have HD:=hid hd;clear hd;go_wp2;exact⟨⟨n+1,h4,by go_num,a.out.same (zzx h4 HD.out)⟩,by simp[aU];omega⟩
         ·have hd':((sdS m y k n:Int) == 0)=ξ:=by simp;omega
          have HD:=hid hd;clear hd;have ct:=a.out.t.at (clS m k+n) _ (zgp _ b);rw[zui] at ct;cases ht:oB m y (ks.take j) (clS m k+n) with
          | true =>
           rw[ht] at ct;have HT:=hid ht;clear ht;go_wp2;exact⟨⟨n+1,h4,by go_num,a.out.same (zw3 HT.out)⟩,by simp[aU];omega⟩
          | false =>
           rw[ht] at ct;have HT:=hid ht;clear ht;have ft:=a.out.t.f (clS m k+n);have s5:=(a.out.s.far (b':=bt) (o':=clS m k+n) (i6 a.out.d4) (ν Γ)).at 5 _ D;have cg:=(a.out.g.far (b':=bt) (o':=clS m k+n) (oM (mF a.out.d2 a.out.d3)) (ν Γ)).at _ _ (tN _ b);have co:=(a.out.o.far (b':=bt) (o':=clS m k+n) (oM a.out.d3) (ν Γ)).at _ _ (tN _ b);have fo:=(a.out.o.far (b':=bt) (o':=clS m k+n) (oM a.out.d3) (ν Γ)).f (clS m k+n);have cm:=(H.out.kept (a.out.toPxW.take _ b).low).c (164+sdS m y k n) (by omega);by_cases R:128<=hwS m k
           ·rw[aO R] at s5
            by_cases L:gd m y (clS m k+n)=0
            ·have hg':((gd m y (clS m k+n):Int) == 0)=Γ:=by rw[L];rfl
             have HS:=hid (zuk h4 HD.out HT.out (λhh=>hh.2 L));clear L;go_wp2;exact⟨⟨n+1,h4,by go_num,a.out.seen b HS.out⟩,by simp[aU];omega⟩
            ·have hg':((gd m y (clS m k+n):Int) == 0)=ξ:=by simp;omega
             have HS:=hid (zuj h4 HD.out HT.out R L);clear L;go_wp2;exact⟨⟨n+1,h4,by go_num,a.out.hid b HS.out⟩,by simp[aU];omega⟩
           ·rw[aG R] at s5
            have HS:=hid (zuk h4 HD.out HT.out (λhh=>R hh.1));go_wp2;exact⟨⟨n+1,h4,by go_num,a.out.seen b HS.out⟩,by simp[aU];omega⟩
       ·have h9:¬ (n:Int)<4:=by omega
        have e4:n=4:=by omega
        subst e4;clear h4 hn;go_wp2;refine⟨⟨j+1,hjl,by go_num,?_,a.out.l⟩,by simp[aU];omega⟩;rw[HJ.out];exact a.out.toPxW.congr (λx _=>zw0 x) (λx _=>zw1 x)
     ·have hj9:¬ (j:Int)<ks.length:=by omega
      have ej:ks.take j=ks:=dY (by omega);rw[ej] at E;clear ej;go_wp2_with (first
       | (refine vj D _ D _ _ D E.out.o ?_)
       | (refine tx D _ _ D w.heap.size (oh m y ks) _ D D E.out.r ?_;rintro w' F I;have HB':=hid I;have HW':=hid F;clear I F))
      have hl:=vk HB'.out;refine Ξ (v:=ac (bE (oh m y ks)).toArray) ?_ D ⟨D,?_⟩
      ·simp only[results,results202]
       simp;exact hl
      ·rw[HW'.out];exact Bl.puts E.out.low (ψ _) _
def tY(n:Nat)(y:Int):Int:=if n=256 then (if 0<=y/\y<8 then 0 else 3) else 4
theorem zoa(a:Option Addr)(n c:Nat)(y:Int)(w:u):Δ ω 201 #[κ a n c,J Q y] w λe w'=>e=μ (J Q (tY n y))/\w=w':=by
 by_cases b:n=256
 ·by_cases h1:y<0
  ·have e:tY n y=3:=by unfold tY;rw[am b,ae (by omega)]
   rw[e];subst b;go_enter func201,ntmps201;go_wp2;go_ret;exact⟨D,D⟩
  ·by_cases h2:(8:Int)<=y
   ·have e:tY n y=3:=by unfold tY;rw[am b,ae (by omega)]
    rw[e];subst b;go_enter func201,ntmps201;go_wp2;go_ret;exact⟨D,D⟩
   ·have e:tY n y=0:=by unfold tY;rw[am b,am (by omega)]
    rw[e];subst b;go_enter func201,ntmps201;go_wp2;go_ret;exact⟨D,D⟩
 ·have e:tY n y=4:=by unfold tY;rw[ae b]
  rw[e];have d:((n:Int) != 256)=Γ:=by simp;omega
  go_enter func201,ntmps201;go_wp2;go_ret;exact⟨D,D⟩
theorem zul(m:List UInt8)(v:π)(g o c:Nat)(y:Nat)(w:u)(h:Mm w m v g o c)(l:y<8):Δ ω 112 #[v,J Q y] w λe w'=>e=μ (Ψ #[ac (bE (px m y)).toArray,J Q 0])/\Below w.heap.size w w':=by
 have H:=hid h;obtain⟨rfl,j,q,hc⟩:=h;have k:tY 256 y=0:=by unfold tY;rw[am D,am (by omega)]
 have n:=hid k;clear hc k;go_enter func112,ntmps112;go_wp2_with (first
  | (go_at_call 201;refine(zoa _ _ _ _ _).mono ?_;rw[n.out];rintro e w1 ⟨rfl,rfl⟩)
  | (go_at_call 202;refine(zrO m _ g o c y _ (H.out.kept (stA (aR w) _)) l).mono ?_;rintro e w2 ⟨rfl,a⟩)
  | (refine tx D _ _ D w.heap.size (px m y) (λ_=>0) D D ((Bx.new w (bE λ_=>0) _ D).kept a) ?_;rintro p b d;have f:=hid d;have i:=hid b;clear d b))
 have j:=vk f.out;refine Ξ (v:=Ψ #[ac (bE (px m y)).toArray,J Q 0]) ?_ D ⟨D,?_⟩
 ·simp only[results,results112]
  simp;show (Result.andThen (Sem.run ω (bC 66 ⟨w.heap.size,0,G⟩) p) _)=_;rw[j];rfl
 ·rw[i.out];exact Bl.puts (bw (stA (aR w) _) a) (ψ _) _
section
variable {W w1 : u} {b : Nat} {M : List UInt8}
end
def Z256:List UInt8:=List.replicate 256 0
def M0:List UInt8:=((((Z256.set 16 (bF 27)).set 160 (bF 10)).set 161 (bF 11)).set 162 (bF 12)).set 163 (bF 13)
end Go.Proofs.YthghjlinhokimaaGreatDoor
