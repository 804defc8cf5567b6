/-
  Parts of a proof, joined.
-/
import Derived.Test.YthghjlinhokimaaGreatDoorZcA
import Derived.Test.YthghjlinhokimaaGreatDoorZcLockRun00
import Derived.Test.YthghjlinhokimaaGreatDoorZcLockRun01
import Derived.Test.YthghjlinhokimaaGreatDoorZc30
import Derived.Test.YthghjlinhokimaaGreatDoorZc32
set_option linter.all false
set_option maxRecDepth 100000
set_option maxHeartbeats 3200000
namespace Go.Proofs.YthghjlinhokimaaGreatDoor
open Go.ChangeShapes Go.WideShapes Go.ChangeAt Go.RowKit Go.Proofs.Tryz
def oO(b:Nat):Value:=.func (.func 380) #[] #[.pointer (some ⟨b,0,none⟩),.pointer (some ⟨b+1,0,none⟩)]
theorem znZ(l u:Int)(w:World):Calls prog 370 #[.int .i64 l,.int .i64 u] w λe w'=>e=.returned (.func (.func 380) #[] #[.pointer (some ⟨w.heap.size,0,none⟩),.pointer (some ⟨w.heap.size+1,0,none⟩)])/\w'=(w.alloc (.cells #[.int .i64 l] 3)).alloc (.cells #[.int .i64 u] 3):=by
 go_enter func370,ntmps370;go_wp2;go_ret;exact⟨U,U⟩
theorem p9(l u x:Int)(b c:Nat)(w:World)(a:w.cell? ⟨b,0,none⟩=some (.int .i64 l))(d:w.cell? ⟨c,0,none⟩=some (.int .i64 u)):Calls prog 380 #[.int .i64 x,.pointer (some ⟨b,0,none⟩),.pointer (some ⟨c,0,none⟩)] w λe w'=>e=.returned (.bool (O.inR l u x))/\w'=w:=by
 have e:∀ b,(decide (l<=x) && decide (x<=u))=b->Hid (O.inR l u x=b):=λ_ h=>h
 by_cases h1:l<=x <;> by_cases h2:x<=u
 ·have e:=e true (by simp[h1,h2])
  go_enter func380,ntmps380;go_wp2;go_ret;rw[e.out];exact⟨U,U⟩
 all_goals
  have e:=e false (by simp;omega);go_enter func380,ntmps380;go_wp2;go_ret;rw[e.out];exact⟨U,U⟩
structure Lims (h : Int) (b0 b1 b2 b3 : Nat) (w : World) : Prop where
 l0:w.cell? ⟨b0,0,none⟩=some (.int .i64 (O.lo h 0))
 u0:w.cell? ⟨b0+1,0,none⟩=some (.int .i64 (O.hi h 0))
 l1:w.cell? ⟨b1,0,none⟩=some (.int .i64 (O.lo h 1))
 u1:w.cell? ⟨b1+1,0,none⟩=some (.int .i64 (O.hi h 1))
 l2:w.cell? ⟨b2,0,none⟩=some (.int .i64 (O.lo h 2))
 u2:w.cell? ⟨b2+1,0,none⟩=some (.int .i64 (O.hi h 2))
 l3:w.cell? ⟨b3,0,none⟩=some (.int .i64 (O.lo h 3))
 u3:w.cell? ⟨b3+1,0,none⟩=some (.int .i64 (O.hi h 3))
theorem zn0(a b:Value)(k:Nat)(c:k<32)(w:World):Calls prog 365 #[.agg #[a,b,.int .i64 (O.mask k)]] w λe w'=>∃ b0 b1 b2 b3,e=.returned (.agg #[oO b0,oO b1,oO b2,oO b3])/\Lims (O.mask k) b0 b1 b2 b3 w'/\Below w.heap.size w w':=by
 rcases O.mask_or k c with h|h|h|h|h|h|h|h|h <;> rw[h]
 all_goals
  clear h;go_enter func365,ntmps365;go_wp2_with (go_at_call 370;refine(znZ _ _ _).mono ?_;rintro e w' ⟨rfl,rfl⟩)
  refine ao (v:=?_) ?_ U ?_;rotate_left
  ·simp[results,results365,go_sem]
   first|done|exact U
  refine⟨_,_,_,_,U,⟨?_,?_,?_,?_,?_,?_,?_,?_⟩,?_⟩
  rotate_right 1
  ·repeat (first|exact aW _ _|refine Below.alloc ?_ (by simp <;> omega) _)
  all_goals repeat (first|(refine(jb _ _ _ _ ?_).trans ?_;(focus (simp;done));rfl)|(refine(aK _ _ _ ?_).trans ?_;(focus (simp <;> omega))))
theorem zsK(op d s n c:Int)(h:O.isOp op=false)(w:World)(b:aZ w):Calls prog 338 #[.agg #[.int .i64 op,.int .i64 d,.int .i64 s,.int .i64 n,.int .i64 c]] w λe w'=>e=.returned (.int .i64 5)/\Below w.heap.size w w':=by
 have f:=hid b;clear b;have H:=hid h;clear h;go_enter func338,ntmps338;go_wp2_with (go_at_call 256;refine(zhL op H.out _ (lq f.out _)).mono ?_;rintro e w1 ⟨rfl,a⟩)
 go_ret;exact⟨U,stA (bn (stA (J _) _) a) _⟩
def pV(h:Int)(v:Nat->Int)(j:Nat):Prop:=∀ i,i<j->O.inB h i (v i)=true
def rH(d s n w:Int)(i:Nat):Int:=if i=0 then d else if i=1 then s else if i=2 then n else w
theorem zw1(k:Nat)(a:k<32)(d s n w:Int)(h:pV (O.mask k) (rH d s n w) 4):O.okB k d s n w=true:=by
 have b:O.inB (O.mask k) 0 d=true:=h 0 (by omega);have h1:O.inB (O.mask k) 1 s=true:=h 1 (by omega);have h2:O.inB (O.mask k) 2 n=true:=h 2 (by omega);have h3:O.inB (O.mask k) 3 w=true:=h 3 (by omega);rw[<- O.inB_all k a,b,h1,h2,h3];rfl
theorem ze5(k:Nat)(b:k<32)(d s n w:Int)(i:Nat)(hi:i<4)(h:O.inB (O.mask k) i (rH d s n w i)=false):O.okB k d s n w=false:=by
 rw[<- O.inB_all k b];have hc:i=0 \/ i=1 \/ i=2 \/ i=3:=by omega
 rcases hc with rfl|rfl|rfl|rfl
 ·have a:O.inB (O.mask k) 0 d=false:=h
  rw[a];simp
 ·have a:O.inB (O.mask k) 1 s=false:=h
  rw[a];simp
 ·have a:O.inB (O.mask k) 2 n=false:=h
  rw[a];simp
 ·have a:O.inB (O.mask k) 3 w=false:=h
  rw[a];simp
theorem tp{k:Nat}(b:k<32)(a:k≠30)(d s n w:Int):O.ck k d s n w=if O.okB k d s n w then 0 else 3:=by
 unfold O.ck;rw[Q ((O.isOp_iff _).2 (by omega))];rfl
theorem zdQ{h:Int}{v:Nat->Int}{j:Nat}(a:pV h v j)(b:O.inB h j (v j)=true):pV h v (j+1):=λi hi=>by
 by_cases e:i<j
 ·exact a i e
 ·have:i=j:=by omega
  subst this;exact b
theorem zvr(a x1 x2 x3:Value)(w:World):(Instr.index 423 (.agg #[a,x1,x2,x3]) (.int .i64 0)).run prog w=.ok a w:=by kernel_rfl
theorem zvs(a x1 x2 x3:Value)(w:World):(Instr.index 423 (.agg #[a,x1,x2,x3]) (.int .i64 1)).run prog w=.ok x1 w:=by kernel_rfl
theorem zvt(a x1 x2 x3:Value)(w:World):(Instr.index 423 (.agg #[a,x1,x2,x3]) (.int .i64 2)).run prog w=.ok x2 w:=by kernel_rfl
theorem zvu(a x1 x2 x3:Value)(w:World):(Instr.index 423 (.agg #[a,x1,x2,x3]) (.int .i64 3)).run prog w=.ok x3 w:=by kernel_rfl
theorem zpP(k:Nat)(f:k<32)(c:k≠30)(d s n g:Int)(w:World)(L:aZ w):Calls prog 338 #[.agg #[.int .i64 k,.int .i64 d,.int .i64 s,.int .i64 n,.int .i64 g]] w λe w'=>e=.returned (.int .i64 (O.ck k d s n g))/\Below w.heap.size w w':=by
 have M:=hid L;clear L;go_enter func338,ntmps338;go_wp2_with (first
  | (go_at_call 256;refine(oq k f c _ (lq M.out _)).mono ?_;rintro e w1 ⟨rfl,l⟩;obtain⟨E,F⟩:=bQ l;have N:w.heap.size<w1.heap.size:=by have:=l.size;simp at this;omega)
  | (go_at_call 365;refine(zn0 _ _ k f _).mono ?_;rintro e w2 ⟨b0,b1,b2,b3,rfl,P,o⟩;unfold oO;obtain⟨h,H⟩:=bQ o))
 have hB:Below w.heap.size w w2:=bn (stA (stA (bn (stA (J _) _) l) _) _) o;have v0:w2.cell? ⟨w1.heap.size+1,0,none⟩=some (.int .i64 d):=by rw[h _ _ (by simp)];exact jb _ _ _ _ (by simp)
 have R:w2.cell? ⟨w1.heap.size+1,1,none⟩=some (.int .i64 s):=by rw[h _ _ (by simp)];exact jb _ _ _ _ (by simp)
 have v2:w2.cell? ⟨w1.heap.size+1,2,none⟩=some (.int .i64 n):=by rw[h _ _ (by simp)];exact jb _ _ _ _ (by simp)
 have v3:w2.cell? ⟨w1.heap.size+1,3,none⟩=some (.int .i64 g):=by rw[h _ _ (by simp)];exact jb _ _ _ _ (by simp)
 clear E F h H l o M;obtain⟨p,q,r,t,u,v,x,y⟩:=P
 go_loop [28] (λi=>∃ j:Nat,j<=4/\i=.int .i64 j/\pV (O.mask k) (rH d s n g) j) (λi=>4-(intOf i).toNat)
 case atStart=>exact⟨0,by omega,U,λi hi=>by omega⟩
 case round =>
  obtain⟨j,T,rfl,z⟩:=hrel;have B:=hid z;clear z;have I:j=0 \/ j=1 \/ j=2 \/ j=3 \/ j=4:=by omega
  rcases I with rfl|rfl|rfl|rfl|rfl
  ·have i0:=zvr
   by_cases a:O.inR (O.lo (O.mask k) 0) (O.hi (O.mask k) 0) d=true
   ·go_wp2_with (go_at_call 380;refine(p9 _ _ _ _ _ _ p q).mono ?_;rintro e w' ⟨rfl,rfl⟩)
    go_round
    case rel=>exact⟨1,by omega,by go_num,zdQ B.out a⟩
    case measure=>simp[intOf]
   ·have b:O.inR (O.lo (O.mask k) 0) (O.hi (O.mask k) 0) d=false:=by simpa using a
    have m:=hid (ze5 k f d s n g 0 (by omega) b);clear a;go_wp2_with (go_at_call 380;refine(p9 _ _ _ _ _ _ p q).mono ?_;rintro e w' ⟨rfl,rfl⟩)
    go_ret;rw[tp f c,m.out];exact⟨U,hB⟩
  ·have i0:=zvs
   by_cases a:O.inR (O.lo (O.mask k) 1) (O.hi (O.mask k) 1) s=true
   ·go_wp2_with (go_at_call 380;refine(p9 _ _ _ _ _ _ r t).mono ?_;rintro e w' ⟨rfl,rfl⟩)
    go_round
    case rel=>exact⟨2,by omega,by go_num,zdQ B.out a⟩
    case measure=>simp[intOf]
   ·have b:O.inR (O.lo (O.mask k) 1) (O.hi (O.mask k) 1) s=false:=by simpa using a
    have m:=hid (ze5 k f d s n g 1 (by omega) b);clear a;go_wp2_with (go_at_call 380;refine(p9 _ _ _ _ _ _ r t).mono ?_;rintro e w' ⟨rfl,rfl⟩)
    go_ret;rw[tp f c,m.out];exact⟨U,hB⟩
  ·have i0:=zvt
   by_cases a:O.inR (O.lo (O.mask k) 2) (O.hi (O.mask k) 2) n=true
   ·go_wp2_with (go_at_call 380;refine(p9 _ _ _ _ _ _ u v).mono ?_;rintro e w' ⟨rfl,rfl⟩)
    go_round
    case rel=>exact⟨3,by omega,by go_num,zdQ B.out a⟩
    case measure=>simp[intOf]
   ·have b:O.inR (O.lo (O.mask k) 2) (O.hi (O.mask k) 2) n=false:=by simpa using a
    have m:=hid (ze5 k f d s n g 2 (by omega) b);clear a;go_wp2_with (go_at_call 380;refine(p9 _ _ _ _ _ _ u v).mono ?_;rintro e w' ⟨rfl,rfl⟩)
    go_ret;rw[tp f c,m.out];exact⟨U,hB⟩
  ·have i0:=zvu
   by_cases a:O.inR (O.lo (O.mask k) 3) (O.hi (O.mask k) 3) g=true
   ·go_wp2_with (go_at_call 380;refine(p9 _ _ _ _ _ _ x y).mono ?_;rintro e w' ⟨rfl,rfl⟩)
    go_round
    case rel=>exact⟨4,by omega,by go_num,zdQ B.out a⟩
    case measure=>simp[intOf]
   ·have b:O.inR (O.lo (O.mask k) 3) (O.hi (O.mask k) 3) g=false:=by simpa using a
    have m:=hid (ze5 k f d s n g 3 (by omega) b);clear a;go_wp2_with (go_at_call 380;refine(p9 _ _ _ _ _ _ x y).mono ?_;rintro e w' ⟨rfl,rfl⟩)
    go_ret;rw[tp f c,m.out];exact⟨U,hB⟩
  ·have m:=hid (zw1 k f d s n g B.out)
   go_wp2;go_ret;rw[tp f c,m.out];exact⟨U,hB⟩
theorem tq(op d s n a:Int)(w:World)(b:aZ w):Calls prog 338 #[.agg #[.int .i64 op,.int .i64 d,.int .i64 s,.int .i64 n,.int .i64 a]] w λe w'=>e=.returned (.int .i64 (O.ck op d s n a))/\Below w.heap.size w w':=by
 cases h:O.isOp op
 ·refine(zsK op d s n a h w b).mono λe w' c=>⟨c.1.trans ?_,c.2⟩
  unfold O.ck;rw[h];rfl
 ·obtain⟨h1,h2,h3⟩:=(O.isOp_iff op).1 h
  obtain⟨k,rfl⟩:=aB h1;exact zpP k (by omega) (by omega) d s n a w b
theorem qW(c:UInt8)(w:World):Calls prog 359 #[.int .u8 c.toNat] w λe w'=>e=.returned (.bool (S.isDigit c))/\w'=w:=by
 by_cases h1:48<=c.toNat
 ·have a:(48:Int)<=c.toNat:=by omega
  by_cases h2:c.toNat<=57
  ·have b:(c.toNat:Int)<=57:=by omega
   have e:S.isDigit c=true:=by unfold S.isDigit;rw[aL h1,aL h2];rfl
   rw[e];clear e h1 h2;go_enter func359,ntmps359;go_wp2;go_ret;exact⟨U,U⟩
  ·have b:¬ (c.toNat:Int)<=57:=by omega
   have e:S.isDigit c=false:=by unfold S.isDigit;rw[aF h2];simp
   rw[e];clear e h1 h2;go_enter func359,ntmps359;go_wp2;go_ret;exact⟨U,U⟩
 ·have a:¬ (48:Int)<=c.toNat:=by omega
  have e:S.isDigit c=false:=by unfold S.isDigit;rw[aF h1];simp
  rw[e];clear e h1;go_enter func359,ntmps359;go_wp2;go_ret;exact⟨U,U⟩
theorem zvp(s:ByteArray)(c:UInt8)(b:s.size=2)(d:∀ h,s[0]'h=114)(h1:∀ h,s[1]'h=c)(hc:48<=c.toNat)(a:c.toNat<=55)(w:World):Calls prog 331 #[.string s] w λe w'=>e=.returned (.tuple #[.int .i64 ((c.toNat:Int)-48),.bool true])/\w'=w:=by
 have g1:¬ (c.toNat:Int)<48:=by omega
 have f:¬ (55:Int)<c.toNat:=by omega
 go_enter func331,ntmps331;go_wp2
 go_ret2
 exact⟨U,U⟩
theorem zvq(s:ByteArray)(a:¬ (s.size:Int)=2)(w:World):Calls prog 331 #[.string s] w λe w'=>e=.returned (.tuple #[.int .i64 0,.bool false])/\w'=w:=by
 have b:((s.size:Int) == 2)=false:=by simpa using a
 go_enter func331,ntmps331;go_wp2
 go_ret2
 exact⟨U,U⟩
theorem vW(s:ByteArray)(a:UInt8)(b:s.size=2)(c:∀ h,s[0]'h=a)(d:¬ (a.toNat:Int)=114)(w:World):Calls prog 331 #[.string s] w λe w'=>e=.returned (.tuple #[.int .i64 0,.bool false])/\w'=w:=by
 go_enter func331,ntmps331;go_wp2
 go_ret2
 exact⟨U,U⟩
theorem zwY(s:ByteArray)(c:UInt8)(a:s.size=2)(b:∀ h,s[0]'h=114)(h1:∀ h,s[1]'h=c)(hc:(c.toNat:Int)<48)(w:World):Calls prog 331 #[.string s] w λe w'=>e=.returned (.tuple #[.int .i64 0,.bool false])/\w'=w:=by
 go_enter func331,ntmps331;go_wp2
 go_ret2
 exact⟨U,U⟩
theorem zwZ(s:ByteArray)(c:UInt8)(b:s.size=2)(d:∀ h,s[0]'h=114)(h1:∀ h,s[1]'h=c)(hc:¬ (c.toNat:Int)<48)(a:(55:Int)<c.toNat)(w:World):Calls prog 331 #[.string s] w λe w'=>e=.returned (.tuple #[.int .i64 0,.bool false])/\w'=w:=by
 go_enter func331,ntmps331;go_wp2
 go_ret2
 exact⟨U,U⟩
theorem zm3(s:ByteArray):(bs s).length=s.size:=rfl
theorem zm4(s:ByteArray)(i:Nat)(c:UInt8)(h:(bs s)[i]?=some c):∀ a,s[i]'a=c:=by
 intro a;obtain⟨⟨l⟩⟩:=s;have b:i<l.length:=a;have:l[i]?=some c:=h;rw[au b] at this;exact aH this
theorem zeP(s:ByteArray)(w:World):Calls prog 331 #[.string s] w λe w'=>e=.returned (.tuple #[.int .i64 ((S.reg (bs s)).getD 0),.bool (S.reg (bs s)).isSome])/\w'=w:=by
 by_cases b:s.size=2
 ·have d:=zm3 s
  rw[b] at d
  match hb:bs s,d with
  | [a,c],_ =>
   have g:=zm4 s 0 a (by rw[hb];rfl);have h1:=zm4 s 1 c (by rw[hb];rfl);by_cases i:a=114
   ·subst i
    by_cases hc:48<=c.toNat
    ·by_cases f:c.toNat<=55
     ·have e:S.reg [114,c]=some ((c.toNat:Int)-48):=by simp[S.reg,hc,f]
      rw[e];exact zvp s c b g h1 hc f w
     ·have e:S.reg [114,c]=none:=by simp[S.reg];omega
      rw[e];exact zwZ s c b g h1 (by omega) (by omega) w
    ·have e:S.reg [114,c]=none:=by simp[S.reg];omega
     rw[e];exact zwY s c b g h1 (by omega) w
   ·have e:S.reg [a,c]=none:=by simp[S.reg,i]
    have j:¬ (a.toNat:Int)=114:=by
     intro h;exact i (jv.1 (by rw[show (114:UInt8).toNat=114 from U];omega))
    rw[e];exact vW s a b g j w
 ·have d:=zm3 s
  have e:S.reg (bs s)=none:=by
   unfold S.reg;split
   ·rename_i h;rw[h] at d;exact absurd d.symm b
   ·rfl
  rw[e];exact zvq s (by omega) w
theorem zw0(s:ByteArray)(a:s.size=0)(w:World):Calls prog 324 #[.string s] w λe w'=>e=.returned (.bool false)/\w'=w:=by
 go_enter func324,ntmps324;go_wp2;go_ret;exact⟨U,U⟩
theorem zpM(s:ByteArray)(b:¬ (s.size:Int)<1)(a:12<(s.size:Int))(w:World):Calls prog 324 #[.string s] w λe w'=>e=.returned (.bool false)/\w'=w:=by
 go_enter func324,ntmps324;go_wp2;go_ret;exact⟨U,U⟩
theorem zn1(s:ByteArray)(c:UInt8)(d:¬ (s.size:Int)<1)(a:¬ 12<(s.size:Int))(f:∀ h,s[0]'h=c)(g:S.isDigit c=true)(w:World):Calls prog 324 #[.string s] w λe w'=>e=.returned (.bool false)/\w'=w:=by
 have b:0<s.size:=by omega
 go_enter func324,ntmps324;go_wp2_with (go_at_call 359;refine(qW c _).mono ?_;rintro e w' ⟨rfl,rfl⟩)
 go_ret;exact⟨U,U⟩
def tn(l:List UInt8)(k:Nat):Prop:=(l.take k).all S.nameCh=true
theorem zhM{l:List UInt8}{k:Nat}{c:UInt8}(h:tn l k)(hc:l[k]?=some c)(a:S.nameCh c=true):tn l (k+1):=by
 unfold tn at h ⊢;rw[dw,hc];simp[h,a]
theorem zpN{l:List UInt8}{k:Nat}{c:UInt8}(hc:l[k]?=some c)(a:S.nameCh c=false):l.all S.nameCh=false:=by
 cases h:l.all S.nameCh
 ·rfl
 ·have:=bW.1 h c (bh hc)
  rw[a] at this;cases this
theorem zpO(s:ByteArray)(c:UInt8)(u:¬ (s.size:Int)<1)(o:¬ 12<(s.size:Int))(v:∀ h,s[0]'h=c)(y:S.isDigit c=false)(w:World):Calls prog 324 #[.string s] w λe w'=>e=.returned (.bool ((bs s).all S.nameCh && (S.reg (bs s)).isNone))/\w'=w:=by
 have p:0<s.size:=by omega
 have z:=zm3 s;go_enter func324,ntmps324;go_wp2_with (go_at_call 359;refine(qW c _).mono ?_;rintro e w' ⟨rfl,rfl⟩)
 go_loop [21] (λi=>∃ k:Nat,k<=s.size/\i=.int .i64 k/\tn (bs s) k) (λi=>s.size-(intOf i).toNat)
 case atStart=>exact⟨0,by omega,U,U⟩
 case round =>
  obtain⟨k,B,rfl,a⟩:=hrel;by_cases q:k<s.size
  ·have m:(k:Int)<s.size:=by omega
   obtain⟨x,j⟩:∃ x,(bs s)[k]?=some x:=⟨_,au (by omega)⟩
   have r:=zm4 s k x j;cases d:S.isDigit x
   ·by_cases f:x=95
    ·subst f
     go_wp2_with (go_at_call 359;refine(qW 95 _).mono ?_;rintro e w' ⟨rfl,rfl⟩)
     go_round
     case rel=>exact⟨k+1,by omega,by go_num,zhM a j U⟩
     case measure=>simp[intOf];omega
    ·have n:¬ (x.toNat:Int)=95:=by
      intro h;exact f (jv.1 (by rw[show (95:UInt8).toNat=95 from U];omega))
     have b:(x == 95)=false:=by simpa using f
     by_cases h1:(x.toNat:Int)<97
     ·have g:S.nameCh x=false:=by unfold S.nameCh;rw[d,b,aF (by omega)];rfl
      go_wp2_with (go_at_call 359;refine(qW x _).mono ?_;rintro e w' ⟨rfl,rfl⟩)
      go_ret;rw[zpN j g];exact⟨U,U⟩
     ·by_cases h2:122<(x.toNat:Int)
      ·have g:S.nameCh x=false:=by unfold S.nameCh;rw[d,b,aF (by omega:¬ x.toNat<=122)];simp
       go_wp2_with (go_at_call 359;refine(qW x _).mono ?_;rintro e w' ⟨rfl,rfl⟩)
       go_ret;rw[zpN j g];exact⟨U,U⟩
      ·have g:S.nameCh x=true:=by unfold S.nameCh;rw[aL (by omega:97<=x.toNat),aL (by omega:x.toNat<=122)];simp
       go_wp2_with (go_at_call 359;refine(qW x _).mono ?_;rintro e w' ⟨rfl,rfl⟩)
       go_round
       case rel=>exact⟨k+1,by omega,by go_num,zhM a j g⟩
       case measure=>simp[intOf];omega
   ·have g:S.nameCh x=true:=by unfold S.nameCh;rw[d];rfl
    go_wp2_with (go_at_call 359;refine(qW x _).mono ?_;rintro e w' ⟨rfl,rfl⟩)
    go_round
    case rel=>exact⟨k+1,by omega,by go_num,zhM a j g⟩
    case measure=>simp[intOf];omega
  ·have l:k=s.size:=by omega
   subst l;have t:(bs s).all S.nameCh=true:=by
    unfold tn at a
    rwa [cD (by omega)] at a
   go_wp2_with (go_at_call 331;refine(zeP s _).mono ?_;rintro e w' ⟨rfl,rfl⟩)
   go_ret;rw[t];cases S.reg (bs s) <;> exact⟨U,U⟩
theorem zdu(s:ByteArray)(w:World):Calls prog 324 #[.string s] w λe w'=>e=.returned (.bool (S.nameOk (bs s)))/\w'=w:=by
 have a:=zm3 s;cases hb:bs s with
 | nil=>exact zw0 s (by rw[<- a,hb];rfl) w
 | cons c r =>
  have f:0<s.size:=by rw[<- a,hb];simp
  have b:=zm4 s 0 c (by rw[hb];rfl);unfold S.nameOk;simp only;rw[<- hb,a];by_cases h12:s.size<=12
  ·rw[aL h12]
   cases d:S.isDigit c
   ·have:=zpO s c (by omega) (by omega) b d w
    simpa using this
   ·have:=zn1 s c (by omega) (by omega) b d w
    simpa using this
  ·rw[aF h12]
   exact zpM s (by omega) (by omega) w
theorem pW(g:Nat)(w:World):Calls prog 328 #[.int .i64 0,.pointer (some ⟨g,0,none⟩)] w λe w'=>e=.returned (.pointer (some ⟨g,1,none⟩))/\w'=w:=by
 go_enter func328,ntmps328;go_wp2;go_ret;exact⟨U,U⟩
theorem pX(g:Nat)(w:World):Calls prog 328 #[.int .i64 1,.pointer (some ⟨g,0,none⟩)] w λe w'=>e=.returned (.pointer (some ⟨g,2,none⟩))/\w'=w:=by
 go_enter func328,ntmps328;go_wp2;go_ret;exact⟨U,U⟩
theorem pY(g:Nat)(w:World):Calls prog 328 #[.int .i64 2,.pointer (some ⟨g,0,none⟩)] w λe w'=>e=.returned (.pointer (some ⟨g,4,none⟩))/\w'=w:=by
 go_enter func328,ntmps328;go_wp2;go_ret;exact⟨U,U⟩
theorem pZ(g:Nat)(w:World):Calls prog 328 #[.int .i64 3,.pointer (some ⟨g,0,none⟩)] w λe w'=>e=.returned (.pointer (some ⟨g,3,none⟩))/\w'=w:=by
 go_enter func328,ntmps328;go_wp2;go_ret;exact⟨U,U⟩
theorem zpQ:(Tryz.prog.info? 374).map (λi=>(i.zero,i.size,i.bytes))=some (some (.int .i64 0),1,8):=by kernel_rfl
theorem zhN:∀ k:Nat,k<32->k≠30->O.ck k 1 0 0 0=(if O.hasC k 100 then 0 else 3)/\O.ck k 0 1 0 0=(if O.hasC k 115 then 0 else 3)/\O.ck k 0 0 0 1=(if O.hasC k 119 then 0 else 3)/\O.ck k 0 0 1 0=(if O.hasC k 110 then 0 else 3):=by decide +kernel
def lR(k j:Nat):List Value:=((List.range j).filter (λp=>O.hasC k (S.sgn p))).map (λp:Nat=>Value.int .i64 p)
theorem zm5{k j:Nat}(h:O.hasC k (S.sgn j)=false):lR k (j+1)=lR k j:=by unfold lR;rw[eK,dH];simp[h]
theorem zhO{k j:Nat}(h:O.hasC k (S.sgn j)=true):lR k (j+1)=lR k j++[.int .i64 j]:=by unfold lR;rw[eK,dH];simp[h]
theorem qa(k j:Nat):(lR k j).length<=j:=by
 unfold lR;rw[ba];exact ax (eT _ _) (by simp)
theorem zm6(k:Nat)(c:k<32)(a:k≠30)(w:World)(d:aZ w):Calls prog 338 #[.agg #[.int .i64 k,.int .i64 1,.int .i64 0,.int .i64 0,.int .i64 0]] w λe w'=>e=.returned (.int .i64 (if O.hasC k 100 then 0 else 3))/\Below w.heap.size w w' :=
 (tq k 1 0 0 0 w d).mono λe w' b=>⟨by rw[b.1,(zhN k c a).1],b.2⟩
theorem zm7(k:Nat)(c:k<32)(a:k≠30)(w:World)(d:aZ w):Calls prog 338 #[.agg #[.int .i64 k,.int .i64 0,.int .i64 1,.int .i64 0,.int .i64 0]] w λe w'=>e=.returned (.int .i64 (if O.hasC k 115 then 0 else 3))/\Below w.heap.size w w' :=
 (tq k 0 1 0 0 w d).mono λe w' b=>⟨by rw[b.1,(zhN k c a).2.1],b.2⟩
theorem zm8(k:Nat)(c:k<32)(a:k≠30)(w:World)(d:aZ w):Calls prog 338 #[.agg #[.int .i64 k,.int .i64 0,.int .i64 0,.int .i64 0,.int .i64 1]] w λe w'=>e=.returned (.int .i64 (if O.hasC k 119 then 0 else 3))/\Below w.heap.size w w' :=
 (tq k 0 0 0 1 w d).mono λe w' b=>⟨by rw[b.1,(zhN k c a).2.2.1],b.2⟩
theorem zm9(k:Nat)(c:k<32)(a:k≠30)(w:World)(d:aZ w):Calls prog 338 #[.agg #[.int .i64 k,.int .i64 0,.int .i64 0,.int .i64 1,.int .i64 0]] w λe w'=>e=.returned (.int .i64 (if O.hasC k 110 then 0 else 3))/\Below w.heap.size w w' :=
 (tq k 0 0 1 0 w d).mono λe w' b=>⟨by rw[b.1,(zhN k c a).2.2.2],b.2⟩
theorem mZ(v:Value):v.ownBlock=none \/ v.ownBlock≠none:=by cases v.ownBlock with
 | none=>exact Or.inl U
 | some g=>exact Or.inr (by simp)
theorem zfl(k:Nat)(u:k<32)(n:k≠30)(w:World)(F:aZ w):Calls prog 327 #[.int .i64 k] w λe w'=>∃ v,e=.returned v/\w'.ownsRow w.heap.size 374 1 v (lR k 4).length (lR k 4)/\Below w.heap.size w w':=by
 obtain⟨i0,p,q,r,s⟩:=info_parts zpQ;have x:=hid F;clear F;go_enter func327,ntmps327;go_wp2;go_loopw [3,4] (λl i wr=>∃ j:Nat,j<=4/\i=.int .i64 j/\wr.ownsRow w.heap.size 374 1 l (lR k j).length (lR k j)/\Below w.heap.size w wr) (λ_ i _=>4-(intOf i).toNat)
 case atStart=>exact⟨0,by omega,U,⟨U,Or.inl ⟨U,U⟩⟩,aW _ _⟩
 case round =>
  obtain⟨j,y,rfl,b,c⟩:=hrel;have hc:j=0 \/ j=1 \/ j=2 \/ j=3 \/ j=4:=by omega
  have H:=c.size;rcases hc with rfl|rfl|rfl|rfl|rfl
  ·cases m:O.hasC k 100
   ·go_wp2_with (first
     | (go_at_call 328;refine(pW _ _).mono ?_;rintro e w' ⟨rfl,rfl⟩)
     | (go_at_call 338;refine(zm6 k u n _ (lq (x.out.kept c) _)).mono ?_;rw[m];rintro e w1 ⟨rfl,a⟩))
    go_roundw
    case rel=>exact⟨1,by omega,by go_num,by rw[zm5 (j:=0) m];exact(b.alloc _).kept (mX a) (mZ _),bn (stA c _) a⟩
    case measure=>simp[intOf]
   ·go_wp2_with (first
     | (go_at_call 328;refine(pW _ _).mono ?_;rintro e w' ⟨rfl,rfl⟩)
     | (go_at_call 338;refine(zm6 k u n _ (lq (x.out.kept c) _)).mono ?_;rw[m];rintro e w1 ⟨rfl,a⟩;have d:=(b.alloc (.cells #[.int .i64 k,.int .i64 1,.int .i64 0,.int .i64 0,.int .i64 0] 191)).kept (mX a) (mZ _);have f:=bn (stA c (.cells #[.int .i64 k,.int .i64 1,.int .i64 0,.int .i64 0,.int .i64 0] 191)) a)
     | (at_builtin;refine wpList_append_lies _ (by rfl) _ _ _ (by rfl) w.heap.size 374 i0 _ 1 8 underlying372 p q r s U (by omega) _ (lR k 0).length _ (by rfl) (d.alloc _) ⟨w1.heap.size,0,none⟩ 1 1 [.int .i64 0] (by rfl) (by rfl) (World.news_of_block (cs:=#[.int .i64 0]) (t:=374) (fr:=(0,0)) (aJ w1 _)) (by simp[Value.oneCell']) (by omega) (by have:=qa k 0;unfold maxLen;omega) (by have:=qa k 0;omega) (by have:=f.size;simp;omega) (w1.heap.size+1) (by simp) ?_;intro B cp E g h z o))
    go_roundw
    case rel=>exact⟨1,by omega,by go_num,by rw[zhO (j:=0) m,aC];exact g,(stA f _).grown h (stA f _).size (λj y=>(b.lt j y).1)⟩
    case measure=>simp[intOf]
  ·cases m:O.hasC k 115
   ·go_wp2_with (first
     | (go_at_call 328;refine(pX _ _).mono ?_;rintro e w' ⟨rfl,rfl⟩)
     | (go_at_call 338;refine(zm7 k u n _ (lq (x.out.kept c) _)).mono ?_;rw[m];rintro e w1 ⟨rfl,a⟩))
    go_roundw
    case rel=>exact⟨2,by omega,by go_num,by rw[zm5 (j:=1) m];exact(b.alloc _).kept (mX a) (mZ _),bn (stA c _) a⟩
    case measure=>simp[intOf]
   ·go_wp2_with (first
     | (go_at_call 328;refine(pX _ _).mono ?_;rintro e w' ⟨rfl,rfl⟩)
     | (go_at_call 338;refine(zm7 k u n _ (lq (x.out.kept c) _)).mono ?_;rw[m];rintro e w1 ⟨rfl,a⟩;have d:=(b.alloc (.cells #[.int .i64 k,.int .i64 0,.int .i64 1,.int .i64 0,.int .i64 0] 191)).kept (mX a) (mZ _);have f:=bn (stA c (.cells #[.int .i64 k,.int .i64 0,.int .i64 1,.int .i64 0,.int .i64 0] 191)) a)
     | (at_builtin;refine wpList_append_lies _ (by rfl) _ _ _ (by rfl) w.heap.size 374 i0 _ 1 8 underlying372 p q r s U (by omega) _ (lR k 1).length _ (by rfl) (d.alloc _) ⟨w1.heap.size,0,none⟩ 1 1 [.int .i64 1] (by rfl) (by rfl) (World.news_of_block (cs:=#[.int .i64 1]) (t:=374) (fr:=(0,0)) (aJ w1 _)) (by simp[Value.oneCell']) (by omega) (by have:=qa k 1;unfold maxLen;omega) (by have:=qa k 1;omega) (by have:=f.size;simp;omega) (w1.heap.size+1) (by simp) ?_;intro B cp E g h z o))
    go_roundw
    case rel=>exact⟨2,by omega,by go_num,by rw[zhO (j:=1) m,aC];exact g,(stA f _).grown h (stA f _).size (λj y=>(b.lt j y).1)⟩
    case measure=>simp[intOf]
  ·cases m:O.hasC k 119
   ·go_wp2_with (first
     | (go_at_call 328;refine(pY _ _).mono ?_;rintro e w' ⟨rfl,rfl⟩)
     | (go_at_call 338;refine(zm8 k u n _ (lq (x.out.kept c) _)).mono ?_;rw[m];rintro e w1 ⟨rfl,a⟩))
    go_roundw
    case rel=>exact⟨3,by omega,by go_num,by rw[zm5 (j:=2) m];exact(b.alloc _).kept (mX a) (mZ _),bn (stA c _) a⟩
    case measure=>simp[intOf]
   ·go_wp2_with (first
     | (go_at_call 328;refine(pY _ _).mono ?_;rintro e w' ⟨rfl,rfl⟩)
     | (go_at_call 338;refine(zm8 k u n _ (lq (x.out.kept c) _)).mono ?_;rw[m];rintro e w1 ⟨rfl,a⟩;have d:=(b.alloc (.cells #[.int .i64 k,.int .i64 0,.int .i64 0,.int .i64 0,.int .i64 1] 191)).kept (mX a) (mZ _);have f:=bn (stA c (.cells #[.int .i64 k,.int .i64 0,.int .i64 0,.int .i64 0,.int .i64 1] 191)) a)
     | (at_builtin;refine wpList_append_lies _ (by rfl) _ _ _ (by rfl) w.heap.size 374 i0 _ 1 8 underlying372 p q r s U (by omega) _ (lR k 2).length _ (by rfl) (d.alloc _) ⟨w1.heap.size,0,none⟩ 1 1 [.int .i64 2] (by rfl) (by rfl) (World.news_of_block (cs:=#[.int .i64 2]) (t:=374) (fr:=(0,0)) (aJ w1 _)) (by simp[Value.oneCell']) (by omega) (by have:=qa k 2;unfold maxLen;omega) (by have:=qa k 2;omega) (by have:=f.size;simp;omega) (w1.heap.size+1) (by simp) ?_;intro B cp E g h z o))
    go_roundw
    case rel=>exact⟨3,by omega,by go_num,by rw[zhO (j:=2) m,aC];exact g,(stA f _).grown h (stA f _).size (λj y=>(b.lt j y).1)⟩
    case measure=>simp[intOf]
  ·cases m:O.hasC k 110
   ·go_wp2_with (first
     | (go_at_call 328;refine(pZ _ _).mono ?_;rintro e w' ⟨rfl,rfl⟩)
     | (go_at_call 338;refine(zm9 k u n _ (lq (x.out.kept c) _)).mono ?_;rw[m];rintro e w1 ⟨rfl,a⟩))
    go_roundw
    case rel=>exact⟨4,by omega,by go_num,by rw[zm5 (j:=3) m];exact(b.alloc _).kept (mX a) (mZ _),bn (stA c _) a⟩
    case measure=>simp[intOf]
   ·go_wp2_with (first
     | (go_at_call 328;refine(pZ _ _).mono ?_;rintro e w' ⟨rfl,rfl⟩)
     | (go_at_call 338;refine(zm9 k u n _ (lq (x.out.kept c) _)).mono ?_;rw[m];rintro e w1 ⟨rfl,a⟩;have d:=(b.alloc (.cells #[.int .i64 k,.int .i64 0,.int .i64 0,.int .i64 1,.int .i64 0] 191)).kept (mX a) (mZ _);have f:=bn (stA c (.cells #[.int .i64 k,.int .i64 0,.int .i64 0,.int .i64 1,.int .i64 0] 191)) a)
     | (at_builtin;refine wpList_append_lies _ (by rfl) _ _ _ (by rfl) w.heap.size 374 i0 _ 1 8 underlying372 p q r s U (by omega) _ (lR k 3).length _ (by rfl) (d.alloc _) ⟨w1.heap.size,0,none⟩ 1 1 [.int .i64 3] (by rfl) (by rfl) (World.news_of_block (cs:=#[.int .i64 3]) (t:=374) (fr:=(0,0)) (aJ w1 _)) (by simp[Value.oneCell']) (by omega) (by have:=qa k 3;unfold maxLen;omega) (by have:=qa k 3;omega) (by have:=f.size;simp;omega) (w1.heap.size+1) (by simp) ?_;intro B cp E g h z o))
    go_roundw
    case rel=>exact⟨4,by omega,by go_num,by rw[zhO (j:=3) m,aC];exact g,(stA f _).grown h (stA f _).size (λj y=>(b.lt j y).1)⟩
    case measure=>simp[intOf]
  ·go_wp2
   go_ret;exact⟨_,U,b,c⟩
theorem zna(op d s n a:Int)(h1:O.isOp op=true)(h2:O.okB op.toNat d s n a=true)(w:World)(c:aZ w):Calls prog 338 #[.agg #[.int .i64 op,.int .i64 d,.int .i64 s,.int .i64 n,.int .i64 a]] w λe w'=>e=.returned (.int .i64 0)/\Below w.heap.size w w':=by
 refine(tq op d s n a w c).mono λe w' b=>⟨b.1.trans ?_,b.2⟩
 unfold O.ck;rw[h1,h2];rfl
def wordsAt(w:World)(g:Nat)(l:List Int):Prop:=∀ i,i<l.length->w.cell? ⟨g,i,none⟩=some (.int .u16 (l.getD i 0))
theorem zgV(k d s n:Int)(h1:0<=k/\k<=31)(h2:0<=d/\d<=7)(h3:0<=s/\s<=7)(h4:-16<=n/\n<=15):bits .or .u16 (bits .or .u16 (bits .or .u16 (k*2048) (d*256)) (s*32)) (bits .and .u16 (IntKind.u16.wrap n) 31)=O.first k d s n:=by
 rw[O.low5 n h4,O.first_of k d s _ h1 h2 h3 (by omega)];rfl
theorem zpR(k:Nat)(d s n m:Int)(h:k<32)(r:k≠30)(a:O.okB k d s n m=true)(o:O.hasC k 119=false)(w:World)(f:aZ w):Calls prog 272 #[.agg #[.int .i64 k,.int .i64 d,.int .i64 s,.int .i64 n,.int .i64 m]] w λe w'=>∃ g,e=.returned (.tuple #[.slice (some ⟨g,0,none⟩) 1 1,.int .i64 0])/\wordsAt w' g [O.first k d s n]/\w.heap.size<=g/\g<w'.heap.size/\Below w.heap.size w w':=by
 obtain⟨⟨t,d1⟩,⟨s0,s1⟩,⟨u,v⟩,⟨w0,x⟩⟩:=O.ok_bd a;have h1:=(O.isOp_iff k).2 (by omega);have p:lenOf (O.mask k)=1:=by have:=O.mask_w k h;rw[o] at this;unfold lenOf;rw[G (by simpa using this.symm)]
 have y:=hid p;have z:=hid a;have B:=hid h1;have E:=hid f;have j:=f.lt;have q:0<w.heap.size:=eB (aU _) j;obtain⟨c0,c1,c2⟩:=f k h;clear f a h1 o p;go_enter func272,ntmps272;go_wp2_with (first
  | (go_at_call 338;refine(zna _ _ _ _ _ B.out z.out _ (lq E.out _)).mono ?_;rintro e w1 ⟨rfl,b⟩;obtain⟨F,H⟩:=bQ b;have l:w.heap.size<w1.heap.size:=by have:=b.size;simp at this;omega)
  | (go_at_call 288;refine(nP _ _ k h _).mono ?_;rw[y.out];rintro e w2 ⟨rfl,c⟩))
 go_ret2
 refine⟨w2.heap.size,U,λi hi=>?_,ga (ap l c.size),by simp,stA (bn (bn (stA (J _) _) b) c) _⟩;obtain rfl:i=0:=by simpa using hi
 rw[zgV k d s n (by omega) ⟨t,d1⟩ ⟨s0,s1⟩ ⟨u,v⟩];exact jb _ _ _ _ U
theorem zpS(k:Nat)(d s n h:Int)(j:k<32)(t:k≠30)(a:O.okB k d s n h=true)(p:O.hasC k 119=true)(w:World)(f:aZ w):Calls prog 272 #[.agg #[.int .i64 k,.int .i64 d,.int .i64 s,.int .i64 n,.int .i64 h]] w λe w'=>∃ g,e=.returned (.tuple #[.slice (some ⟨g,0,none⟩) 2 2,.int .i64 0])/\wordsAt w' g [O.first k d s n,h]/\w.heap.size<=g/\g<w'.heap.size/\Below w.heap.size w w':=by
 obtain⟨⟨u,d1⟩,⟨s0,s1⟩,⟨v,x⟩,⟨w0,y⟩⟩:=O.ok_bd a;have h1:=(O.isOp_iff k).2 (by omega);have q:lenOf (O.mask k)=2:=by have:=O.mask_w k j;rw[p] at this;unfold lenOf;rw[Q (by simpa using this.symm)]
 have z:=hid q;have B:=hid a;have E:=hid h1;have F:=hid f;have l:=f.lt;have r:0<w.heap.size:=eB (aU _) l;obtain⟨c0,c1,c2⟩:=f k j;clear f a h1 p q;go_enter func272,ntmps272;go_wp2_with (first
  | (go_at_call 338;refine(zna _ _ _ _ _ E.out B.out _ (lq F.out _)).mono ?_;rintro e w1 ⟨rfl,b⟩;obtain⟨H,I⟩:=bQ b;have m:w.heap.size<w1.heap.size:=by have:=b.size;simp at this;omega)
  | (go_at_call 288;refine(nP _ _ k j _).mono ?_;rw[z.out];rintro e w2 ⟨rfl,c⟩;obtain⟨L,M⟩:=bQ c))
 go_ret2
 refine⟨w2.heap.size,U,λi hi=>?_,ga (ap m c.size),by simp,stA (bn (bn (stA (J _) _) b) c) _⟩;rw[zgV k d s n (by omega) ⟨u,d1⟩ ⟨s0,s1⟩ ⟨v,x⟩];have o:i=0 \/ i=1:=by simp at hi;omega
 rcases o with rfl|rfl <;> exact jb _ _ _ _ U
theorem zjc(op d s n a:Int)(h1:O.isOp op=true)(b:O.okB op.toNat d s n a=true)(w:World)(c:aZ w):Calls prog 272 #[.agg #[.int .i64 op,.int .i64 d,.int .i64 s,.int .i64 n,.int .i64 a]] w λe w' =>
  ∃ g,e=.returned (.tuple #[.slice (some ⟨g,0,none⟩) (O.words op d s n a).length (O.words op d s n a).length,.int .i64 0])/\wordsAt w' g (O.words op d s n a)/\w.heap.size<=g/\g<w'.heap.size/\Below w.heap.size w w':=by
 obtain⟨a1,a2,a3⟩:=(O.isOp_iff op).1 h1;obtain⟨k,rfl⟩:=aB a1;rw[bH] at b;unfold O.words;rw[bH];cases hc:O.hasC k 119
 ·exact zpR k d s n a (by omega) (by omega) b hc w c
 ·exact zpS k d s n a (by omega) (by omega) b hc w c
theorem zet(k:Nat)(d:k<32)(a:k≠30)(w:World)(c:aZ w):Calls prog 206 #[.int .i64 k] w λe w'=>e=.returned (.tuple #[.string (O.nameS k),.int .i64 0])/\Below w.heap.size w w':=by
 have f:=hid c;clear c;go_enter func206,ntmps206;go_wp2_with (go_at_call 256;refine(oq k d a _ f.out).mono ?_;rintro e w1 ⟨rfl,b⟩)
 go_ret2
 exact⟨U,stA b _⟩
theorem zpU(op:Int)(h:O.isOp op=false)(w:World)(b:aZ w):Calls prog 206 #[.int .i64 op] w λe w'=>e=.returned (.tuple #[.string ⟨#[]⟩,.int .i64 5])/\Below w.heap.size w w':=by
 have c:=hid b;clear b;have H:=hid h;clear h;go_enter func206,ntmps206;go_wp2_with (go_at_call 256;refine(zhL op H.out _ c.out).mono ?_;rintro e w1 ⟨rfl,a⟩)
 go_ret2
 exact⟨U,stA a _⟩
structure AF (w : World) : Prop where
 pow:Lib.TabIs prog w "internal/strconv.uint64pow10" .u64 Lib.pow10Tab
 len:∃ m,w.cell? ⟨0,0,none⟩=some (.int .i64 m)
 shapes:aZ w
theorem g_pow:Tryz.prog.globalNamed "internal/strconv.uint64pow10" = some 6:=by kernel_rfl
theorem AF.kept{w w':World}(h:AF w)(hb:Below w.heap.size w w'):AF w':=by
 obtain⟨t,⟨m,a⟩,s⟩:=h;exact⟨Joins.tab_stays g_pow t hb (ak _),⟨m,(hb.cell (aG w _ a)).trans a⟩,s.kept hb⟩
theorem nB{w:World}(h:AF w)(o:Obj):AF (w.alloc o):=h.kept (stA (J _) _)
def aT(l:List UInt8):ByteArray:=⟨l.toArray⟩
theorem mk_bs(s:ByteArray):aT (bs s)=s:=by obtain⟨⟨l⟩⟩:=s;rfl
theorem nH(l:List UInt8):bs (aT l)=l:=rfl
theorem pL(l:List UInt8):(aT l).size=l.length:=rfl
theorem zkV(w:World)(k:Nat)(os:Array Obj):Below w.heap.size w (Sort.grow (w.drewN k) os):=by
 have h:∀ k,Below w.heap.size w (w.drewN k):=λk=>by
  induction k with
  | zero=>exact J w
  | succ k a=>exact a.drew
 refine(h k).trans ⟨U,U,U,by simp[Sort.grow],λi hi=>?_⟩;have:(w.drewN k).heap.size=w.heap.size:=by simp
 show ((w.drewN k).heap++os)[i]?=_;rw[iC (by omega)]
theorem qY(n:Int)(a:-9223372036854775808<=n)(h1:n<=9223372036854775807)(w:World)(h:AF w):Calls prog 104 #[.int .i64 n] w λe w'=>e=.returned (.string (aT (Lib.itoa n)))/\Below w.heap.size w w':=by
 refine(Tryz.strconv_Itoa n a h1 w h.pow).mono λe w' ⟨b,k,os,c⟩=>⟨b,?_⟩
 subst c;exact zkV w k os
def oP(p:Nat):Nat:=if p=0 then 1 else if p=1 then 2 else if p=2 then 4 else 3
def jS(k:Nat)(o:S.Ord):Array Value:=#[.int .i64 k,.int .i64 o.d,.int .i64 o.s,.int .i64 o.n,.int .i64 o.w]
theorem zxb{k j:Nat}{p:Nat}(h:(S.parts k)[j]?=some p):(lR k 4)[j]?=some (.int .i64 p):=by
 unfold lR;rw[aX];have:((List.range 4).filter (λp=>O.hasC k (S.sgn p)))[j]?=some p:=h;rw[this];rfl
theorem zkW(k:Nat):(lR k 4).length=(S.parts k).length:=by unfold lR S.parts;rw[ba]
theorem znc{k j p:Nat}(h:(S.parts k)[j]?=some p):p<4:=by
 have:=bh h;unfold S.parts at this;have:=(fI.1 this).1
 simpa using this
theorem ze7(k:Nat):(S.parts k).length<=4:=by
 unfold S.parts;exact ax (eT _ _) (by simp)
theorem zdv{w:World}{B:Nat}{t:TypeId}{v:Value}{n:Nat}{xs:List Value}(h:w.ownsRow B t 1 v n xs)(f:0<n):∃ g a,v=.slice (some ⟨g,0,none⟩) n a/\B<=g/\g<w.heap.size/\n<=a /\ ∀ j,j<n->w.cell? ⟨g,j,none⟩=xs[j]?:=by
 obtain⟨i,h⟩:=h;rcases h with⟨_,k⟩|⟨g,a,b,rfl,hB,hb,hc,_,d,e⟩
 ·omega
 ·refine⟨g,a,U,hB,(ay.1 hb).1,hc,λj l=>?_⟩
  simp only[World.cell?,hb];have c:j<b.size:=by rw[d];omega
  rw[<- e,cK (by omega)];simp[c]
theorem zpV{w:World}{B:Nat}{t:TypeId}{v:Value}{n:Nat}{xs:List Value}(h:w.ownsRow B t 1 v n xs)(c:n=0):∃ a b,v=.slice a 0 b:=by
 subst c;rcases h.2 with⟨h,_⟩|⟨g,b,d,h,_⟩
 ·exact⟨_,_,h⟩
 ·exact⟨_,_,h⟩
theorem zje(k:Nat)(f:k<32)(d:k≠30)(hp:S.parts k=[])(w:World)(g:aZ w):Calls prog 327 #[.int .i64 k] w λe w'=>∃ a b,e=.returned (.slice a 0 b)/\Below w.heap.size w w':=by
 refine(zfl k f d w g).mono λe w' ⟨v,h,c,hb⟩=>?_
 obtain⟨a,b,rfl⟩:=zpV c (by rw[zkW,hp];rfl);exact⟨a,b,h,hb⟩
def mt(w:World)(g k:Nat):Prop:=∀ j p:Nat,(S.parts k)[j]?=some p->w.cell? ⟨g,j,none⟩=some (.int .i64 p)
theorem zjf(k:Nat)(h:k<32)(c:k≠30)(hp:0<(S.parts k).length)(w:World)(i:aZ w):Calls prog 327 #[.int .i64 k] w λe w'=>∃ g a,e=.returned (.slice (some ⟨g,0,none⟩) (S.parts k).length a)/\mt w' g k/\w.heap.size<=g/\g<w'.heap.size/\(S.parts k).length<=a/\Below w.heap.size w w':=by
 refine(zfl k h c w i).mono λe w' ⟨v,d,b,hb⟩=>?_
 obtain⟨g,a,rfl,h1,h2,h3,h4⟩:=zdv b (by rw[zkW];exact hp);rw[zkW] at d h3 h4;refine⟨g,a,d,λj p f=>?_,h1,h2,h3,hb⟩;rw[h4 j (aA.1 f).1,zxb f]
theorem mt.kept{w w':World}{g k B:Nat}(h:mt w g k)(hb:Below B w w')(hB:g<B):mt w' g k:=λj p a=>(hb.cell hB).trans (h j p a)
theorem zkY(k:Nat)(a:k≠30):O.nameS k=aT (K.row k).1:=by unfold O.nameS;rw[G a];rfl
def fU(w:World)(g o:Nat)(l:List UInt8):Prop:=∀(j:Nat) (c:UInt8),l[j]?=some c->w.cell? ⟨g,o+j,none⟩=some (.int .u8 c.toNat)
theorem oH{w a:World}(h:Below w.heap.size w a)(k:Nat):Below w.heap.size w (a.drewN k):=by
 induction k with
 | zero=>exact h
 | succ k b=>exact b.drew
theorem byteCells_append(a b:List UInt8):Lib.byteCells a++Lib.byteCells b=Lib.byteCells (a++b):=by
 first|rfl|simp[Lib.byteCells]
theorem zcw(a:List UInt8):(Lib.byteCells a).length=a.length:=by
 first|rfl|simp[Lib.byteCells]
def ip(w:World)(v:Value)(l:List UInt8):Prop:=(∃ a b,v=.slice a 0 b/\l=[]) \/ ∃ g o b,v=.slice (some ⟨g,o,none⟩) l.length b/\l.length<=b/\g<w.heap.size/\fU w g o l
/-! ### the orders by their names -/
def gA(j:Nat):List (ByteArray × Int):=((List.range j).filter (λk=>k != 30)).map (λk=>(O.nameS k,(k:Int)))
theorem zsU:∀ j,j<32->j≠30->(gA j).find? (λp=>p.1 == O.nameS j)=none:=by decide +kernel
theorem zn4{j:Nat}(h:j≠30):gA (j+1)=gA j++[(O.nameS j,(j:Int))]:=by
 unfold gA;rw[eK,dH];simp[h]
theorem zsV:gA 31=gA 30:=by
 unfold gA;rw[show (31:Nat)=30+1 from U,eK,dH];simp
theorem zpZ{α β:Type}(f:α->β)(p:α->Bool)(q:β->Bool):∀ l:List α,((l.filter p).map f).find? q=(l.find? (λx=>p x && q (f x))).map f
 | []=>rfl
 | a::l=>by
  have b:=zpZ f p q l;cases hp:p a
  ·simp[hp,b]
  ·cases c:q (f a)
   ·simp[hp,c,b]
   ·simp[hp,c]
theorem qE(l:List UInt8)(c:ByteArray):(aT l == c)=(l == bs c):=by
 rw[lX];by_cases h:l=bs c
 ·subst h;rw[mk_bs];simp
 ·have:¬ aT l=c:=λe=>h (by rw[<- e];rfl)
  rw[aF this];simp[h]
theorem zsW(c:ByteArray):(gA 32).find? (λp=>p.1 == c)=(S.opOf (bs c)).map (λk=>(O.nameS k,(k:Int))):=by
 unfold gA S.opOf;rw[zpZ];congr 1;congr 1;funext k
 by_cases h:k=30
 ·subst h;rfl
 ·have e:O.nameS k=aT (K.row k).1:=zkY k h
  rw[e,qE]
/-! ### the reader -/
def pl(l:List (S.By × Nat)):List (ByteArray × Int):=l.map (λp=>(aT p.1,(p.2:Int)))
theorem zp0(l:List (S.By × Nat))(c:ByteArray):(pl l).find? (λp=>p.1 == c)=(l.find? (λp=>p.1 == bs c)).map (λp=>(aT p.1,(p.2:Int))):=by
 unfold pl;rw[List.find?_map];congr 2;funext p
 exact qE p.1 c
def eI:List (S.By × Nat × Nat)->List Value
 | []=>[]
 | u::a=>[.string (aT u.1),.int .i64 u.2.1,.int .i64 u.2.2]++eI a
theorem zdS:∀ l (u:S.By × Nat × Nat),eI (l++[u])=eI l++[.string (aT u.1),.int .i64 u.2.1,.int .i64 u.2.2]
 | [],u=>rfl
 | v::a,u=>by simp[eI,zdS a u]
structure Rd (w : World) (B b mo mp : Nat) (ua : Option Addr) (uc : Nat) (ra : Option Addr) (rc : Nat) (st : S.St) (ln : Nat) : Prop where
 hB:B<=b
 blk:w.heap[b]?=some (.cells #[.map (some mo),.map (some mp),.slice ua st.uses.length uc,.slice ra st.rom.length rc,.int .i64 ln] 220 (0,0))
 ops:ii w mo (gA 32)
 places:ii w mp (pl st.places)
 hmp:B<=mp
 ne:mo≠mp
 uses:w.ownsRow B 277 3 (.slice ua st.uses.length uc) st.uses.length (eI st.uses)
 rom:w.ownsRow B 5 1 (.slice ra st.rom.length rc) st.rom.length (Lib.byteCells st.rom)
section
variable {w w' : World} {B b mo mp : Nat} {ua ra : Option Addr} {uc rc : Nat} {st : S.St} {ln : Nat}
theorem Rd.lt(h:Rd w B b mo mp ua uc ra rc st ln):b<w.heap.size:=(ay.1 h.blk).1
theorem Rd.cell(h:Rd w B b mo mp ua uc ra rc st ln)(i:Nat):w.cell? ⟨b,i,none⟩=(#[.map (some mo),.map (some mp),.slice ua st.uses.length uc,.slice ra st.rom.length rc,.int .i64 ln]:Array Value)[i]?:=Lib.cell_of_heap h.blk i
theorem Rd.frozen(h:Rd w B b mo mp ua uc ra rc st ln)(i:Nat):w.frozen? ⟨b,i,none⟩=false:=Lib.frozen_of_heap h.blk i
theorem Rd.kept(h:Rd w B b mo mp ua uc ra rc st ln)(hb:Below w.heap.size w w'):Rd w' B b mo mp ua uc ra rc st ln :=
 ⟨h.hB,(hb.block b h.lt).trans h.blk,h.ops.below hb h.ops.lt,h.places.below hb h.places.lt,h.hmp,h.ne,h.uses.kept (mX hb) (mZ _),h.rom.kept (mX hb) (mZ _)⟩
theorem pN{w:World}{B:Nat}{e:TypeId}{s:Nat}{v:Value}{n:Nat}{xs:List Value}{x:Nat}{o:Obj}(b:w.ownsRow B e s v n xs)(hb:w.heap[x]?=some o)(c:∀ a,o ≠ .cells a e (0,0)):v.ownBlock≠some x:=by
 rcases b.2 with⟨rfl,_⟩|⟨g,d,a,rfl,_,f,_⟩
 ·simp[Value.ownBlock]
 ·intro h
  simp only[Value.ownBlock,aP] at h;subst h;rw[f] at hb;exact c a (aH hb).symm
theorem Rd.rom_b(h:Rd w B b mo mp ua uc ra rc st ln):(Value.slice ra st.rom.length rc).ownBlock≠some b:=pN h.rom h.blk (λa e=>by simp at e)
theorem Rd.uses_b(h:Rd w B b mo mp ua uc ra rc st ln):(Value.slice ua st.uses.length uc).ownBlock≠some b:=pN h.uses h.blk (λa e=>by simp at e)
theorem Rd.rom_mp(h:Rd w B b mo mp ua uc ra rc st ln):(Value.slice ra st.rom.length rc).ownBlock≠some mp:=by
 obtain⟨es,c,hb,_⟩:=h.places;exact pN h.rom hb (λa e=>by simp at e)
theorem Rd.uses_mp(h:Rd w B b mo mp ua uc ra rc st ln):(Value.slice ua st.uses.length uc).ownBlock≠some mp:=by
 obtain⟨es,c,hb,_⟩:=h.places;exact pN h.uses hb (λa e=>by simp at e)
theorem Rd.rom_mo(h:Rd w B b mo mp ua uc ra rc st ln):(Value.slice ra st.rom.length rc).ownBlock≠some mo:=by
 obtain⟨es,c,hb,_⟩:=h.ops;exact pN h.rom hb (λa e=>by simp at e)
theorem Rd.uses_mo(h:Rd w B b mo mp ua uc ra rc st ln):(Value.slice ua st.uses.length uc).ownBlock≠some mo:=by
 obtain⟨es,c,hb,_⟩:=h.ops;exact pN h.uses hb (λa e=>by simp at e)
theorem Rd.mp_b(h:Rd w B b mo mp ua uc ra rc st ln):b≠mp:=λe=>by
 obtain⟨es,c,hb,_⟩:=h.places;rw[<- e,h.blk] at hb;simp at hb
theorem Rd.mo_b(h:Rd w B b mo mp ua uc ra rc st ln):b≠mo:=λe=>by
 obtain⟨es,c,hb,_⟩:=h.ops;rw[<- e,h.blk] at hb;simp at hb
theorem Rd.rows(h:Rd w B b mo mp ua uc ra rc st ln):(Value.slice ua st.uses.length uc).ownBlock=none \/ (Value.slice ua st.uses.length uc).ownBlock≠(Value.slice ra st.rom.length rc).ownBlock:=by
 cases a:(Value.slice ua st.uses.length uc).ownBlock with
 | none=>exact Or.inl U
 | some x =>
  refine Or.inr (λe=>?_);rcases h.uses.2 with⟨c,_⟩|⟨g,f,i,c,_,j,_⟩
  ·rw[c] at a;simp[Value.ownBlock] at a
  ·rw[c] at a
   simp only[Value.ownBlock,aP] at a;subst a;exact pN h.rom j (λd k=>by simp at k) e.symm
theorem zbG{w:World}{b i:Nat}{cs:Array Value}{t:TypeId}{fr:Nat × Nat}(h:w.heap[b]?=some (.cells cs t fr))(v:Value):(w.setCell ⟨b,i,none⟩ v).heap[b]?=some (.cells (cs.setIfInBounds i v) t fr):=by
 simp[World.setCell,gC,h]
theorem sf(w:World)(b i:Nat)(v:Value):w.grownBy (w.setCell ⟨b,i,none⟩ v) (some b) :=
 ⟨U,U,U,by simp[World.setCell],λk _ a=>bL _ _ _ _ (λe=>a (by rw[e]))⟩
theorem lS{w w':World}{x:Option Nat}(b:w.grownBy w' x){k:Nat}(c:k<w.heap.size)(a:some k≠x):w'.heap[k]?=w.heap[k]?:=b.block k c a
theorem Rd.put_rom(h:Rd w B b mo mp ua uc ra rc st ln){w1:World}(i:w.grownBy w1 (Value.slice ra st.rom.length rc).ownBlock){ra':Option Addr}{rc':Nat}{rom':S.By}(c:w1.ownsRow B 5 1 (.slice ra' rom'.length rc') rom'.length (Lib.byteCells rom')):Rd (w1.setCell ⟨b,3,none⟩ (.slice ra' rom'.length rc')) B b mo mp ua uc ra' rc' { st with rom:=rom' } ln:=by
 have d:w1.heap[b]?=_:=(lS i h.lt (br h.rom_b)).trans h.blk;have a:=sf w1 b 3 (.slice ra' rom'.length rc');have f:ii w1 mo (gA 32):=h.ops.of_block (lS i h.ops.lt (br h.rom_mo));have g:ii w1 mp (pl st.places):=h.places.of_block (lS i h.places.lt (br h.rom_mp));have j:=h.uses.kept i h.rows;refine⟨h.hB,(zbG d _).trans (by simp),f.of_block (lS a f.lt (λe=>h.mo_b (aH e).symm)),g.of_block (lS a g.lt (λe=>h.mp_b (aH e).symm)),h.hmp,h.ne,j.kept a (Or.inr h.uses_b),c.kept a (Or.inr (pN c d (λk e=>by simp at e)))⟩
theorem Rd.put_uses(h:Rd w B b mo mp ua uc ra rc st ln){w1:World}(i:w.grownBy w1 (Value.slice ua st.uses.length uc).ownBlock){ua':Option Addr}{uc':Nat}{us':List (S.By × Nat × Nat)}(c:w1.ownsRow B 277 3 (.slice ua' us'.length uc') us'.length (eI us')):Rd (w1.setCell ⟨b,2,none⟩ (.slice ua' us'.length uc')) B b mo mp ua' uc' ra rc { st with uses:=us' } ln:=by
 have d:w1.heap[b]?=_:=(lS i h.lt (br h.uses_b)).trans h.blk;have a:=sf w1 b 2 (.slice ua' us'.length uc');have f:ii w1 mo (gA 32):=h.ops.of_block (lS i h.ops.lt (br h.uses_mo));have g:ii w1 mp (pl st.places):=h.places.of_block (lS i h.places.lt (br h.uses_mp))
 have j:=h.rom.kept i (by rcases h.rows with k|k
                          ·rw[k];exact mZ _
                          ·exact Or.inr (λe=>k e.symm))
 refine⟨h.hB,(zbG d _).trans (by simp),f.of_block (lS a f.lt (λe=>h.mo_b (aH e).symm)),g.of_block (lS a g.lt (λe=>h.mp_b (aH e).symm)),h.hmp,h.ne,c.kept a (Or.inr (pN c d (λl e=>by simp at e))),j.kept a (Or.inr h.rom_b)⟩
theorem Rd.put_line(h:Rd w B b mo mp ua uc ra rc st ln)(ln':Nat):Rd (w.setCell ⟨b,4,none⟩ (.int .i64 ln')) B b mo mp ua uc ra rc st ln':=by
 have a:=sf w b 4 (.int .i64 ln');exact⟨h.hB,(zbG h.blk _).trans (by simp),h.ops.of_block (lS a h.ops.lt (λe=>h.mo_b (aH e).symm)),h.places.of_block (lS a h.places.lt (λe=>h.mp_b (aH e).symm)),h.hmp,h.ne,h.uses.kept a (Or.inr h.uses_b),h.rom.kept a (Or.inr h.rom_b)⟩
theorem Rd.put_place(h:Rd w B b mo mp ua uc ra rc st ln){w1:World}(a:w.grownBy w1 (some mp)){ps:List (S.By × Nat)}(c:ii w1 mp (pl ps)):Rd w1 B b mo mp ua uc ra rc { st with places:=ps } ln :=
 ⟨h.hB,(lS a h.lt (λe=>h.mp_b (aH e))).trans h.blk,h.ops.of_block (lS a h.ops.lt (λe=>h.ne (aH e))),c,h.hmp,h.ne,h.uses.kept a (Or.inr h.uses_mp),h.rom.kept a (Or.inr h.rom_mp)⟩
end
theorem znj(p:Option Addr)(v:Int)(w:World):Calls prog 329 #[.pointer p,.int .i64 v,.bool true] w λe w'=>e=.returned (.int .i64 v)/\w'=w:=by
 go_enter func329,ntmps329;go_wp2;go_ret;exact⟨U,U⟩
theorem zp1{l:S.By}{n:Int}(h:S.num l=some n):Lib.atoiAll l=.ok n/\Lib.itoa n=l:=by
 unfold S.num at h;split at h
 ·rename_i v a
  split at h
  ·rename_i hi
   cases h;exact⟨a,hi⟩
  ·cases h
 ·cases h
theorem zvw(s:ByteArray)(n:Int)(b:s.size<=10000)(h:Lib.atoiAll (bs s)=.ok n)(w:World):Calls prog 170 #[.string s] w λe w'=>e=.returned (.tuple #[.int .i64 n,.nilIface])/\Below w.heap.size w w':=by
 refine(Tryz.strconv_Atoi_ok s (by omega) n h w).mono λe w' a=>⟨a.1,?_⟩
 rcases a.2 with rfl|⟨t,rfl⟩
 ·exact J _
 ·exact Joins.below_bytesWorld _ _ _ _ (ak _)
theorem zjj(s:ByteArray)(n:Int)(d:s.size<=10000)(h:S.num (bs s)=some n)(w:World)(b:AF w):Calls prog 330 #[.string s] w λe w'=>e=.returned (.tuple #[.int .i64 n,.bool true])/\Below w.heap.size w w':=by
 obtain⟨h1,h2⟩:=zp1 h;obtain⟨b0,b1⟩:=Lib.atoiAll_bounds h1;have f:=hid (zvw s n d h1 w);have g:Hid (∀ w,AF w->Calls prog 104 #[.int .i64 n] w λe w'=>e=.returned (.string s)/\Below w.heap.size w w'):=λw b=>by
  have:=qY n b0 b1 w b;rw[h2,mk_bs] at this;exact this
 have i:=hid b;have j:(s == s)=true:=by rw[lX];simp
 clear h h1 h2 b;go_enter func330,ntmps330;go_wp2_with (first
  | (go_at_call 170;refine f.out.mono ?_;rintro e w1 ⟨rfl,a⟩)
  | (go_at_call 104;refine(g.out _ (i.out.kept a)).mono ?_;rintro e w2 ⟨rfl,c⟩))
 go_ret2
 exact⟨U,bn a c⟩
theorem zfo(p:Option Addr)(s:ByteArray)(h:S.nameOk (bs s)=true)(w:World):Calls prog 325 #[.pointer p,.string s] w λe w'=>e=.returned (.tuple #[.int .i64 0,.string s])/\w'=w:=by
 have a:=hid (zdu s w);rw[h] at a;clear h;go_enter func325,ntmps325;go_wp2_with (go_at_call 324;refine a.out.mono ?_;rintro e w' ⟨rfl,rfl⟩)
 go_ret2
 exact⟨U,U⟩
theorem zgj(p:Option Addr)(s:ByteArray)(n:Int)(d:s.size<=10000)(h:S.nameOk (bs s)=false)(h2:S.num (bs s)=some n)(w:World)(b:AF w):Calls prog 325 #[.pointer p,.string s] w λe w'=>e=.returned (.tuple #[.int .i64 n,.string (aT [])])/\Below w.heap.size w w':=by
 have c:=hid (zdu s w);rw[h] at c;have f:=hid (zjj s n d h2 w b);clear h h2 b;go_enter func325,ntmps325;go_wp2_with (first
  | (go_at_call 324;refine c.out.mono ?_;rintro e w' ⟨rfl,rfl⟩)
  | (go_at_call 330;refine f.out.mono ?_;rintro e w1 ⟨rfl,a⟩)
  | (go_at_call 329;refine(znj p n _).mono ?_;rintro e w' ⟨rfl,rfl⟩))
 go_ret2
 exact⟨U,a⟩
theorem zdT(p:Option Addr)(s:ByteArray)(x:Int × S.By)(d:s.size<=10000)(h:S.wordOrName (bs s)=some x)(w:World)(f:AF w):Calls prog 325 #[.pointer p,.string s] w λe w'=>e=.returned (.tuple #[.int .i64 x.1,.string (aT x.2)])/\Below w.heap.size w w':=by
 unfold S.wordOrName at h;cases a:S.nameOk (bs s) with
 | true =>
  rw[a] at h;cases h;refine(zfo p s a w).mono λe w' c=>⟨c.1.trans ?_,c.2 ▸ J _⟩
  rw[mk_bs]
 | false =>
  rw[a] at h;cases b:S.num (bs s) with
  | none=>rw[b] at h;cases h
  | some n =>
   rw[b] at h;cases h;exact zgj p s n d a b w f
theorem zhU(w:World)(o:aZ w):Calls prog 128 #[] w λe w'=>e=.returned (.map (some w.heap.size))/\ii w' w.heap.size (gA 32)/\Below w.heap.size w w':=by
 have p:=hid o;have r:=@iN prog;clear o;go_enter func128,ntmps128;go_wp2;go_loopw [2] (λi wr=>∃ j:Nat,j<=32/\i=.int .i64 j/\ii wr w.heap.size (gA j)/\Below w.heap.size w wr) (λi _=>32-(intOf i).toNat)
 case atStart=>exact⟨0,by omega,U,zji w,(J w).alloc (ak _) _⟩
 case round =>
  obtain⟨j,u,rfl,d,a⟩:=hrel;by_cases f:j<32
  ·have q:(j:Int)<=31:=by omega
   by_cases c:j=30
   ·subst c
    have h:=hid (zpU 30 (by decide) wr (p.out.kept a));go_wp2_with (go_at_call 206;refine h.out.mono ?_;rintro e w1 ⟨rfl,b⟩)
    go_roundw
    case rel=>exact⟨31,by omega,by go_num,by rw[zsV];exact d.below b d.lt,bn a b⟩
    case measure=>simp[intOf]
   ·have h:=hid (zet j f c wr (p.out.kept a))
    have s:=hid (zsU j f c);go_wp2_with (first
     | (go_at_call 206;refine h.out.mono ?_;rintro e w1 ⟨rfl,b⟩;have l:=d.below b d.lt)
     | (at_mapUpdate;refine zgi _ (by rfl) _ _ _ _ (by rfl) 9 3 underlying216 underlying9 w.heap.size (gA j) (by rfl) l (O.nameS j) j (by rfl) (by rfl) s.out ?_;intro w2 m n))
    go_roundw
    case rel=>exact⟨j+1,by omega,by go_num,by rw[zn4 c];exact m,(bn a b).grown n (ax a.size b.size) (λk t=>by cases t;exact ak _)⟩
    case measure=>simp[intOf];omega
  ·have g:j=32:=by omega
   subst g;go_wp2;go_ret;exact⟨U,d,a⟩
theorem zg0(a:Int)(w:World)(c:0<=a)(b:a<=65535):Calls prog 209 #[.int .u16 a] w λe w'=>e=.returned (.tuple #[.int .u8 (a/256),.int .u8 (a%256)])/\w=w':=by
 go_enter func209,ntmps209;go_wp2
 go_ret2
 exact⟨U,U⟩
theorem zvx:(Tryz.prog.info? 5).map (λi=>(i.zero,i.size,i.bytes))=some (some (.int .u8 0),1,1):=by kernel_rfl
theorem zsX:(Tryz.prog.info? 277).map (λi=>(i.zero,i.size,i.bytes))=some (some (.agg #[.string ⟨#[]⟩,.int .i64 0,.int .i64 0]),3,32):=by kernel_rfl
theorem zjk{ws:List Int}{j:Nat}{x:Int}(h:ws[j]?=some x):S.bytesOf (ws.take (j+1))=S.bytesOf (ws.take j)++[UInt8.ofNat (x/256).toNat,UInt8.ofNat (x%256).toNat]:=by
 have c:∀ a b:List Int,S.bytesOf (a++b)=S.bytesOf a++S.bytesOf b:=λa b=>by
  induction a with
  | nil=>rfl
  | cons y a d=>simp[S.bytesOf,d]
 rw[dw,h,c];rfl
theorem si:∀ ws:List Int,(S.bytesOf ws).length=2*ws.length
 | []=>rfl
 | x::ws=>by simp[S.bytesOf,si ws];omega
theorem zn5(x:Int)(a:0<=x)(h1:x<=65535):Lib.byteCells [UInt8.ofNat (x/256).toNat,UInt8.ofNat (x%256).toNat]=[.int .u8 (x/256),.int .u8 (x%256)]:=by
 have e1:(UInt8.ofNat (x/256).toNat).toNat=(x/256).toNat:=by simp;omega
 have e2:(UInt8.ofNat (x%256).toNat).toNat=(x%256).toNat:=by simp;omega
 simp only[Lib.byteCells,bP,cB,e1,e2];rw[show (((x/256).toNat:Nat):Int)=x/256 by omega,show (((x%256).toNat:Nat):Int)=x%256 by omega]
theorem rh(l:S.By):(aT l).toList.isEmpty=l.isEmpty:=by rw[Lib.toList_data];rfl
theorem wordsAt.block{w w':World}{g:Nat}{l:List Int}(h:wordsAt w g l)(e:w'.heap[g]?=w.heap[g]?):wordsAt w' g l:=λi hi=>(am (w:=w) e).trans (h i hi)
section
variable {w w1 : World} {B b mo mp : Nat} {ua ra : Option Addr} {uc rc : Nat} {st : S.St} {ln : Nat}
end
theorem zxd(w:World)(B b mo mp:Nat)(ua ra:Option Addr)(uc rc:Nat)(st:S.St)(ln:Nat)(N:Rd w B b mo mp ua uc ra rc st ln)(g c:Nat)(ws:List Int)(nm:S.By)(hw:wordsAt w g ws)(hg:g<w.heap.size)
 (hgr:(Value.slice ra st.rom.length rc).ownBlock≠some g) (hgb:g≠b) (P:∀ x∈ws,0<=x/\x<=65535) (hw0:0<ws.length) (hm:st.rom.length+2*ws.length<=1024) (hc:ws.length<=c) (hBw:B<=w.heap.size) (R:st.uses.length+1<=1000000) :
 Calls prog 326 #[.pointer (some ⟨b,0,none⟩),.slice (some ⟨g,0,none⟩) ws.length c,.string (aT nm)] w λe w' =>
  e=.returned (.tuple #[])/\(∃ ua' uc' ra' rc',Rd w' B b mo mp ua' uc' ra' rc' ⟨st.rom++S.bytesOf ws,st.places,if nm=[] then st.uses else st.uses++[(nm,st.rom.length+2*ws.length-2,ln)]⟩ ln)/\Below B w w':=by
 obtain⟨i0,hi0,hz0,hz1,hz2⟩:=info_parts zvx;have hlt:=N.lt;have T:=N.hB;have c3:w.cell? ⟨b,3,none⟩=some (.slice ra st.rom.length rc):=N.cell 3;have HR:=hid N;have HW:=hid P;have HWA:=hid hw;have hm1:¬ (1024:Int)<st.rom.length+2*ws.length:=by omega
 clear N P hw;go_enter func326,ntmps326;go_wp2;go_loopw [24] (λi wr=>∃(j:Nat) (ra':Option Addr) (rc':Nat),j<=ws.length/\i=.int .i64 j/\Rd wr B b mo mp ua uc ra' rc' { st with rom:=st.rom++S.bytesOf (ws.take j) } ln/\Below B w wr/\wordsAt wr g ws/\g<wr.heap.size/\(Value.slice ra' (st.rom++S.bytesOf (ws.take j)).length rc').ownBlock≠some g) (λi _=>ws.length-(intOf i).toNat)
 case atStart=>exact⟨0,ra,rc,by omega,U,by simpa [S.bytesOf] using HR.out,aW _ _,HWA.out,hg,by simpa [S.bytesOf] using hgr⟩
 case round =>
  obtain⟨j,ra',rc',hj,rfl,f,q,V,hg1,W⟩:=hrel;have s:=ax hBw q.size;by_cases v:j<ws.length
  ·have hlt':(j:Int)<ws.length:=by omega
   obtain⟨x,hx⟩:∃ x,ws[j]?=some x:=⟨_,au v⟩
   obtain⟨x0,x1⟩:=HW.out x (bh hx);have cw:wr.cell? ⟨g,j,none⟩=some (.int .u16 x):=by
    have:=V j v;rw[show ws.getD j 0=x by simp[List.getD,hx]] at this;exact this
   obtain⟨L,I⟩:∃ L:Nat,L=(st.rom++S.bytesOf (ws.take j)).length:=⟨_,U⟩
   have X:L=st.rom.length+2*j:=by rw[I,aC,si,bu];omega
   have c3r:wr.cell? ⟨b,3,none⟩=some (.slice ra' L rc'):=by rw[I];exact f.cell 3
   have hbr:=f.lt;have d:=hid (f.kept (stA (J wr) (.cells #[.int .u8 (x/256),.int .u8 (x%256)] 5)));have y:(wr.alloc (.cells #[.int .u8 (x/256),.int .u8 (x%256)] 5)).ownsRow B 5 1 (.slice ra' L rc') L (Lib.byteCells (st.rom++S.bytesOf (ws.take j))):=by rw[I];exact d.out.rom
   have HX:=hid hx;have HROW:=hid y;have HL:=hid I;have HLB:=hid X;have hLm:L+2<=1024:=by omega
   have F:Hid (∀ l,(wr.alloc (.cells #[.int .u8 (x/256),.int .u8 (x%256)] 5)).grownBy l (Value.slice ra' L rc').ownBlock->l.frozen? ⟨b,3,none⟩=false/\b<l.heap.size/\l.cell? ⟨b,3,none⟩=some (.slice ra' L rc')):=λl m=>by
    rw[I] at m ⊢;have o:=(lS m d.out.lt (br d.out.rom_b)).trans d.out.blk;exact⟨Lib.frozen_of_heap o 3,ap d.out.lt m.size,Lib.cell_of_heap o 3⟩
   clear hx c3 I X y f;go_wp2_with (first
    | (go_at_call 209;refine(zg0 x _ x0 x1).mono ?_;rintro e w' ⟨rfl,rfl⟩)
    | (at_builtin;refine wpList_append_lies _ (by rfl) _ _ _ (by rfl) B 5 i0 _ 1 1 underlying26 hi0 hz0 hz1 hz2 U (by omega) _ L _ (by rfl) HROW.out ⟨wr.heap.size,0,none⟩ 2 2 [.int .u8 (x/256),.int .u8 (x%256)] (by rfl) (by rfl) (World.news_of_block (cs:=#[.int .u8 (x/256),.int .u8 (x%256)]) (t:=5) (fr:=(0,0)) (aJ wr _)) (by simp[Value.oneCell']) (by omega) (by unfold maxLen;omega) (by omega) (by simp;omega) (wr.heap.size+1) (by simp) ?_;intro p cp l n a Y Z;obtain⟨f3,z3,d3⟩:=F.out l a))
   have e2:st.rom++S.bytesOf (ws.take (j+1))=(st.rom++S.bytesOf (ws.take j))++[UInt8.ofNat (x/256).toNat,UInt8.ofNat (x%256).toNat]:=by rw[zjk HX.out,bp]
   have hl2:(st.rom++S.bytesOf (ws.take (j+1))).length=L+2:=by rw[e2,aC,<- HL.out];rfl
   have r:Lib.byteCells (st.rom++S.bytesOf (ws.take (j+1)))=Lib.byteCells (st.rom++S.bytesOf (ws.take j))++[.int .u8 (x/256),.int .u8 (x%256)]:=by rw[e2,<- byteCells_append,zn5 x x0 x1]
   have z:=d.out.put_rom (ra':=some ⟨p,0,none⟩) (rc':=cp) (rom':=st.rom++S.bytesOf (ws.take (j+1))) (by rw[HL.out] at a;exact a) (by rw[hl2,r];exact n);rw[hl2] at z;have E:(Value.slice ra' L rc').ownBlock≠some g:=by rw[HL.out];exact W
   refine⟨⟨j+1,some ⟨p,0,none⟩,cp,by omega,by simp,z,(((q.alloc s _).grown a (by simp;omega) (λk hk=>(HROW.out.lt k hk).1)).setCell T _),?_,?_,?_⟩,by simp[intOf];omega⟩
   ·refine V.block ((bL _ _ _ _ hgb).trans ((lS a (by simp;omega) (br E)).trans (bO _ _ hg1)))
   ·have:=a.size;simp at this ⊢;omega
   ·simp only[Value.ownBlock,ne_eq,aP]
    rcases Y with h|h
    ·intro e;rw[e] at h;exact E h
    ·omega
  ·have hjn:j=ws.length:=by omega
   subst hjn;rw[gH] at f;by_cases hnm:nm=[]
   ·subst hnm
    have he:(aT []).toList.isEmpty=true:=rh [];go_wp2;go_end0;exact⟨U,⟨ua,uc,ra',rc',f⟩,q⟩
   ·have he:(aT nm).toList.isEmpty=false:=by rw[rh];cases nm <;> simp_all
    obtain⟨i1,hj0,hy0,hy1,hy2⟩:=info_parts zsX;obtain⟨M,hM⟩:∃ M:Nat,(st.rom++S.bytesOf ws).length=M+2:=⟨st.rom.length+2*ws.length-2,by rw[aC,si];omega⟩
    have H:M=st.rom.length+2*ws.length-2:=by rw[aC,si] at hM;omega
    have c2:wr.cell? ⟨b,2,none⟩=some (.slice ua st.uses.length uc):=f.cell 2;have c3r:wr.cell? ⟨b,3,none⟩=some (.slice ra' (M+2) rc'):=by rw[<- hM];exact f.cell 3
    have c4:wr.cell? ⟨b,4,none⟩=some (.int .i64 ln):=f.cell 4;have hbr:=f.lt;have hM1:M<=1022:=by omega
    have d:=hid (f.kept (stA (J wr) (.cells #[.string (aT nm),.int .i64 M,.int .i64 ln] 277)).drew);have hU:Hid (((wr.alloc (.cells #[.string (aT nm),.int .i64 M,.int .i64 ln] 277)).drew).ownsRow B 277 3 (.slice ua st.uses.length uc) st.uses.length (eI st.uses)):=d.out.uses;have hN:Hid (∀ j u,([.string (aT nm),.int .i64 M,.int .i64 ln]:List Value)[j]?=some u->((wr.alloc (.cells #[.string (aT nm),.int .i64 M,.int .i64 ln] 277)).drew).cell? ((⟨wr.heap.size,0,none⟩:Addr).add j)=some u):=World.news_of_block (cs:=#[.string (aT nm),.int .i64 M,.int .i64 ln]) (t:=277) (fr:=(0,0)) (aJ wr _);have hO:Hid (∀ u∈([.string (aT nm),.int .i64 M,.int .i64 ln]:List Value),u.oneCell'=true):=by intro u hu;simp at hu;rcases hu with rfl|rfl|rfl <;> rfl
    have hul:Hid (st.uses.length+1<=1000000):=R;have F:Hid (∀ l,((wr.alloc (.cells #[.string (aT nm),.int .i64 M,.int .i64 ln] 277)).drew).grownBy l (Value.slice ua st.uses.length uc).ownBlock->l.frozen? ⟨b,2,none⟩=false/\b<l.heap.size/\l.cell? ⟨b,2,none⟩=some (.slice ua st.uses.length uc)):=λl m=>by
     have o:=(lS m d.out.lt (br d.out.uses_b)).trans d.out.blk;exact⟨Lib.frozen_of_heap o 2,ap d.out.lt m.size,Lib.cell_of_heap o 2⟩
    have hbs:Hid (B<=((wr.alloc (.cells #[.string (aT nm),.int .i64 M,.int .i64 ln] 277)).drew).heap.size):=by show B<=_;simp;omega
    have h63:Hid (st.uses.length+1<=maxLen):=by show _<=_;unfold maxLen;omega
    have hby:Hid ((st.uses.length+1)*32<=140737488355328):=by show _<=_;omega
    have HK:Hid (∀(p cp:Nat) (l:World),l.ownsRow B 277 3 (.slice (some ⟨p,0,none⟩) (st.uses.length+1) cp) (st.uses.length+1) (eI st.uses++[.string (aT nm),.int .i64 M,.int .i64 ln])->((wr.alloc (.cells #[.string (aT nm),.int .i64 M,.int .i64 ln] 277)).drew).grownBy l (Value.slice ua st.uses.length uc).ownBlock ->
     Rd (l.setCell ⟨b,2,none⟩ (.slice (some ⟨p,0,none⟩) (st.uses.length+1) cp)) B b mo mp (some ⟨p,0,none⟩) cp ra' rc' ⟨st.rom++S.bytesOf ws,st.places,st.uses++[(nm,st.rom.length+2*ws.length-2,ln)]⟩ ln/\Below B w (l.setCell ⟨b,2,none⟩ (.slice (some ⟨p,0,none⟩) (st.uses.length+1) cp))):=λp cp l hown m=>by
     have hl:(st.uses++[(nm,M,ln)]).length=st.uses.length+1:=by simp
     have:=d.out.put_uses (us':=st.uses++[(nm,M,ln)]) (ua':=some ⟨p,0,none⟩) (uc':=cp) m (by rw[hl,zdS];exact hown);rw[hl] at this;rw[<- H];exact⟨this,((((q.alloc s _).drew).grown m hbs.out (λk hk=>(d.out.uses.lt k hk).1)).setCell T _)⟩
    have hwr:IntKind.i64.wrap (M:Int)=M:=by rw[aI];omega
    have HM:=hid hM;have HMB:=hid H;clear f c3 hM H;go_wp2;go_region_law (refine step_append_lies _ (by rfl) (.tmp 51) (.tmp 64) 218 (by rfl) B 277 i1 _ 3 32 underlying218 hj0 hy0 hy1 hy2 U (by omega) (.slice ua st.uses.length uc) st.uses.length (eI st.uses) (by simp[Act.eval]) hU.out ⟨wr.heap.size,0,none⟩ 1 1 [.string (aT nm),.int .i64 M,.int .i64 ln] (by simp[Act.eval]) U hN.out hO.out (by omega) h63.out hby.out hbs.out (wr.heap.size+1) (by simp) ?_;intro p cp l n a Y Z;obtain⟨f3,z3,d3⟩:=F.out l a)
    all_goals
     go_wp2;go_end0;obtain⟨k1,k2⟩:=HK.out p cp l n a;exact⟨U,⟨_,_,_,_,k1⟩,k2⟩
theorem zhV{ws:List Int}{nm:S.By}{ln:Nat}{st a:S.St}(h:S.put ws nm ln st=.ok a):st.rom.length+2*ws.length<=1024/\a=⟨st.rom++S.bytesOf ws,st.places,if nm=[] then st.uses else st.uses++[(nm,st.rom.length+2*ws.length-2,ln)]⟩:=by
 unfold S.put at h;split at h
 ·cases h
 ·cases h
  exact⟨by omega,U⟩
theorem zp4(w:World)(B b mo mp:Nat)(ua ra:Option Addr)(uc rc:Nat)(st a:S.St)(ln:Nat)(l:Rd w B b mo mp ua uc ra rc st ln)(g c:Nat)(ws:List Int)(nm:S.By)(m:S.put ws nm ln st=.ok a)(n:wordsAt w g ws)(o:g<w.heap.size)
 (f:(Value.slice ra st.rom.length rc).ownBlock≠some g) (h:g≠b) (i:∀ x∈ws,0<=x/\x<=65535) (j:0<ws.length) (hc:ws.length<=c) (k:B<=w.heap.size) (d:st.uses.length+1<=1000000) :
 Calls prog 326 #[.pointer (some ⟨b,0,none⟩),.slice (some ⟨g,0,none⟩) ws.length c,.string (aT nm)] w λe w' =>
  e=.returned (.tuple #[])/\(∃ ua' uc' ra' rc',Rd w' B b mo mp ua' uc' ra' rc' a ln)/\Below B w w':=by
 obtain⟨h1,h2⟩:=zhV m;subst h2;exact zxd w B b mo mp ua ra uc rc st ln l g c ws nm n o f h i j h1 hc k d
theorem bB{B:Nat}{w w':World}(hB:B<=w.heap.size)(h:Below w.heap.size w w'):Below B w w':=h.mono hB
theorem zhW{p:S.By}{ln:Nat}{st a:S.St}(h:S.readWord [p] ln st=.ok a):∃ v nm,S.wordOrName p=some (v,nm)/\0<=v/\v<=65535/\S.put [v] nm ln st=.ok a:=by
 unfold S.readWord at h;simp only at h;split at h
 ·rename_i v nm b
  split at h
  ·cases h
  ·exact⟨v,nm,b,by omega,by omega,h⟩
 ·cases h
theorem rU(w1:World)(B b mo mp:Nat)(ua ra:Option Addr)(uc rc:Nat)(st a:S.St)(ln:Nat)(d:Rd w1 B b mo mp ua uc ra rc st ln)(v:Int)(nm:S.By)(g:S.put [v] nm ln st=.ok a)(v0:0<=v)(l:v<=65535)(f:B<=w1.heap.size)(c:st.uses.length+1<=1000000):Calls prog 326 #[.pointer (some ⟨b,0,none⟩),.slice (some ⟨w1.heap.size,0,none⟩) 1 1,.string (aT nm)] (w1.alloc (.cells #[.int .u16 v] 22)) λe w' =>
  e=.returned (.tuple #[])/\(∃ ua' uc' ra' rc',Rd w' B b mo mp ua' uc' ra' rc' a ln)/\Below B w1 w':=by
 have j:=d.lt;refine(zp4 _ B b mo mp ua ra uc rc st a ln (d.kept (stA (J _) _)) w1.heap.size 1 [v] nm g ?_ (by simp) (λh=>?_) (by omega) (by simp;omega) (by simp) (by simp) (by simp;omega) c).mono λe w' ⟨k,h1,h2⟩=>⟨k,h1,((aW _ _).alloc f _).trans h2⟩
 ·intro i hi
  obtain rfl:i=0:=by simpa using hi
  exact jb _ _ _ _ U
 ·have:=(d.rom.lt _ h).2;omega
theorem zk4(w:World)(B b mo mp:Nat)(ua ra:Option Addr)(uc rc:Nat)(st f:S.St)(ln:Nat)(n:Rd w B b mo mp ua uc ra rc st ln)(g c:Nat)(p:S.By)(hp:p.length<=4000)(k:w.cell? ⟨g,0,none⟩=some (.string (aT p)))(F:g<w.heap.size)(hc:1<=c)
 (o:S.readWord [p] ln st=.ok f) (h:B<=w.heap.size) (i:st.uses.length+1<=1000000) (q:AF w) :
 Calls prog 259 #[.pointer (some ⟨b,0,none⟩),.slice (some ⟨g,0,none⟩) 1 c] w λe w' =>
  e=.returned (.tuple #[])/\(∃ ua' uc' ra' rc',Rd w' B b mo mp ua' uc' ra' rc' f ln)/\Below B w w':=by
 obtain⟨v,nm,r,v0,t,d⟩:=zhW o;have u:=hid (zdT (some ⟨b,0,none⟩) (aT p) (v,nm) (by rw[pL];omega) r w q);have s:=hid n;have x:=hid d;have y:¬ v<0:=by omega
 have z:¬ 65535<v:=by omega
 clear n d o r q;go_enter func259,ntmps259;go_wp2_with (first
  | (go_at_call 325;refine u.out.mono ?_;rintro e w1 ⟨rfl,a⟩;have E:=s.out.kept (stA a (.cells #[.int .u16 v] 22));have j:=ax h a.size)
  | (go_at_call 326;refine(rU w1 B b mo mp ua ra uc rc st f ln (s.out.kept a) v nm x.out v0 t j i).mono ?_;rintro e w2 ⟨rfl,l,m⟩))
 go_end0;exact⟨U,l,(bB h a).trans m⟩
theorem zfp{name:S.By}{st a:S.St}(h:S.readPlace name st=.ok a):S.nameOk name=true/\st.places.find? (λp=>p.1 == name)=none/\a={ st with places:=st.places++[(name,st.rom.length)] }:=by
 unfold S.readPlace at h;split at h
 ·rename_i b
  split at h
  ·cases h
  ·rename_i c
   cases h;exact⟨b,c,U⟩
 ·cases h
theorem zn6(s:ByteArray)(w:World):Calls prog 324 #[.string s] w λe w'=>e=.returned (.bool (S.nameOk (bs s)))/\w=w':=(zdu s w).mono λe w' a=>⟨a.1,a.2.symm⟩
theorem zhX(w:World):(zeroValue 3).run prog w=.ok (.int .i64 0) w:=by kernel_rfl
theorem zvy(l:List (S.By × Nat))(a:S.By)(n:Nat):pl (l++[(a,n)])=pl l++[(aT a,(n:Int))]:=by unfold pl;simp
theorem zjl(w:World)(B b mo mp:Nat)(ua ra:Option Addr)(uc rc:Nat)(st d:S.St)(ln:Nat)(a:Rd w B b mo mp ua uc ra rc st ln)(name:S.By)(m:S.readPlace name st=.ok d)(j:B<=w.heap.size):Calls prog 258 #[.pointer (some ⟨b,0,none⟩),.string (aT name)] w λe w' =>
  e=.returned (.tuple #[])/\(∃ ua' uc' ra' rc',Rd w' B b mo mp ua' uc' ra' rc' d ln)/\Below B w w':=by
 obtain⟨n,o,f⟩:=zfp m;have q:=hid (zn6 (aT name) w);rw[nH,n] at q;have c:(pl st.places).find? (λp=>p.1 == aT name)=none:=by rw[zp0,nH,o];rfl
 have g:=zhT (P:=prog) underlying216 underlying9 a.places (aT name) (zhX w);rw[c] at g;simp only[Option.map_none,Option.getD_none,Option.isSome_none] at g;obtain⟨w1,r,h,i⟩:=zni (P:=prog) (w:=w.drew) underlying216 underlying9 a.places (aT name) (st.rom.length:Int) c;have c1:w.cell? ⟨b,1,none⟩=some (.map (some mp)):=a.cell 1;have c3:w.cell? ⟨b,3,none⟩=some (.slice ra st.rom.length rc):=a.cell 3;have u:=a.lt;have s:=hid a;have v:=hid h;have t:=hid i;have l:=hid f;clear a m n o f c h i;go_enter func258,ntmps258;go_wp2_with (go_at_call 324;refine q.out.mono ?_;rintro e w' ⟨rfl,rfl⟩)
 go_region
 go_wp2;all_goals
  go_end0;rw[l.out];refine⟨U,⟨ua,uc,ra,rc,?_⟩,?_⟩
  ·exact Rd.put_place (w:=w.drew) (s.out.kept (J w).drew) t.out (by rw[zvy];exact v.out)
  ·exact((aW B w).drew).grown t.out j (λk x=>by cases x;exact s.out.hmp)
/-! ### sounds -/
theorem zjz{s:Sd}(h:s.fit)(n:Nat):((ku s n).length:Int)=(if s.w<n then (n-s.w-1)/16+1 else 0)/\(s.ticks n).w=(if (n:Int)<=s.w then s.w-n else 15-(n-s.w-1)%16):=by
 have d:=h.w;induction n with
 | zero=>simp[ku,Sd.ticks];omega
 | succ n c =>
  obtain⟨b,i2⟩:=c;have e:=(Sd.ticks_fit h n).w;simp only[ku,aC,Sd.ticks,Sd.tick];by_cases a:(s.ticks n).w=0
  ·have:(one (s.ticks n)).length=1:=by unfold one;rw[Q a];rfl
   rw[this,Q a];rw[a] at i2;constructor
   ·split at i2 <;> split at b <;> split <;> omega
   ·split at i2 <;> split <;> omega
  ·have:(one (s.ticks n)).length=0:=by unfold one;rw[G a];rfl
   rw[this,G a];constructor
   ·split at i2 <;> split at b <;> split <;> omega
   ·split at i2 <;> split <;> omega
/-! ### what no processor touches: where the beam is, when the next sample comes -/
/-! ### how many samples -/
theorem zuf(s s':Sd)(h:s.w=s'.w):(if s.w=0 then ku s 1 else []).length=(one s').length:=by
 unfold one;rw[h];split
 ·rename_i a
  show ([]++one s).length=_;unfold one;rw[Q (h.trans a)];rfl
 ·rfl
theorem zfQ(c:Cs)(hb:BOk c.s.M.b.l c.s.M.b.a c.s.M.b.f)(d:c.s.M.b.f<=19000):∀ j:Nat,j<=20000->(c.clocks j).sm.length=c.sm.length+(ku c.s.M.s j).length
 | 0,_=>by simp[Cs.clocks,ku]
 | j+1,m=>by
  have g:=zfQ c hb d j (by omega);have h:=vh c hb d j (by omega);obtain⟨k,i⟩:∃ k,k=c.clocks j:=⟨_,U⟩
  have e:c.clocks (j+1)=k.clock:=by rw[i];rfl
  rw[<- i] at g h;rw[e];show (k.sm++(k.s.M.pressed k.co).sample).length=_;have h1:((k.s.M.pressed k.co).sample).length=(one (c.s.M.s.ticks j)).length:=zuf _ _ ((zbL k.co k.s.M).w.trans h.w);rw[aC,g,h1];simp only[ku,aC];omega
/-! ### which lines -/
def iy(l a f:Int)(j:Nat):Option (Int × Int):=if i6 l a j=0/\jI l a j<8 then some (j3 l a f j,jI l a j) else none
def dR(l a f:Int):Nat->List (Int × Int)
 | 0=>[]
 | j+1=>dR l a f j++(iy l a f j).toList
theorem zfR(c:Cs)(hb:BOk c.s.M.b.l c.s.M.b.a c.s.M.b.f)(g:c.s.M.b.f<=19000)(h:c.ln=[]):∀ j:Nat,j<=20000->(c.clocks j).ln.map (λx=>(x.f,x.l))=dR c.s.M.b.l c.s.M.b.a c.s.M.b.f j
 | 0,_=>by simp[Cs.clocks,dR,h]
 | j+1,n=>by
  have i:=zfR c hb g h j (by omega);have d:=vh c hb g j (by omega);obtain⟨k,m⟩:∃ k,k=c.clocks j:=⟨_,U⟩
  have e:c.clocks (j+1)=k.clock:=by rw[m];rfl
  rw[<- m] at i d;rw[e];show (k.ln++(k.s.M.pressed k.co).line).map _=_;have hp:=zbL k.co k.s.M;have e1:=hp.l.trans d.l;have e2:=hp.a.trans d.a;have e3:=hp.f.trans d.f;rw[fM,i];simp only[dR];congr 1;unfold Mach.line iy;rw[e1,e2,e3];split <;> rfl
/-! ### who is held, and waits -/
theorem zpf{σ:Type}{m:C.Mem σ}(c:C.Cpu)(s:σ)(r:Bool)(h1:c.Waits=true)(h2:c.May=false):C.step m c s r=⟨c,s,1⟩:=by
 unfold C.step;rw[h2,lE,G (by simp),Q h1]
def fB:List UInt8:=[0,6,0,0,0,0,17,0,128,0,49,33,216,0]
def oV:C.Cpu:=⟨[0,0,0,0,0,0,0,0],6,false,false,false,false,false,false⟩
def rP:C.Cpu:=⟨[0,32768,0,0,0,0,0,0],10,false,false,false,false,false,false⟩
def rQ:C.Cpu:=⟨[0,32768,0,0,0,0,0,0],12,false,false,false,false,false,false⟩
def oo:C.Cpu:=⟨[0,32768,0,0,0,0,0,0],14,false,false,false,false,false,true⟩
section
variable (main aux : C.Cpu) (arom ram own video : List UInt8) (p0 p1 : Pd) (t : TM) (s : Sd) (b : Bem) (fr tt : Int) (granted held : Bool) (m0 m1 : Int) (rung : Bool) (clock mready aready : Int) (l : List Wt)
theorem zug:C.order bD oV ⟨⟨main,aux,fB,arom,ram,own,video,p0,p1,t,s,b,fr,tt,granted,held,m0,m1,rung,clock,mready,aready⟩,0,l⟩=⟨rP,⟨⟨main,aux,fB,arom,ram,own,video,p0,p1,t,s,b,fr,tt,granted,held,m0,m1,rung,clock,mready,aready⟩,0,l⟩,2⟩:=by kernel_rfl
theorem zuh:C.order bD rP ⟨⟨main,aux,fB,arom,ram,own,video,p0,p1,t,s,b,fr,tt,granted,held,m0,m1,rung,clock,mready,aready⟩,0,l⟩=⟨rQ,⟨⟨main,aux,fB,arom,iH ram 1 0,own,video,p0,p1,t,s,b,fr,tt,granted,held,m0,m1,rung,clock,mready,aready⟩,0,l⟩,2⟩:=by kernel_rfl
theorem zui:C.order bD rQ ⟨⟨main,aux,fB,arom,ram,own,video,p0,p1,t,s,b,fr,tt,granted,held,m0,m1,rung,clock,mready,aready⟩,0,l⟩=⟨oo,⟨⟨main,aux,fB,arom,ram,own,video,p0,p1,t,s,b,fr,tt,granted,held,m0,m1,rung,clock,mready,aready⟩,0,l⟩,1⟩:=by kernel_rfl
end
structure Lkm (M : Mach) (c : C.Cpu) (clock mready : Int) : Prop where
 rom:M.mrom=fB
 held:M.held=true
 main:M.main=c
 clock:M.clock=clock
 ready:M.mready=mready
theorem znJ{σ:Type}{m:C.Mem σ}(c:C.Cpu)(s:σ)(r:Bool)(h1:c.Waits=false)(h2:c.May=false):C.step m c s r=C.order m c s:=by
 unfold C.step;rw[h2,lE,G (by simp),h1,G (by simp)]
theorem sU{k:Cs}{c e:C.Cpu}{d r f:Int}(h:Lkm k.s.M c d r)(b:k.co=[])(a:Lkm (Bst.stepMain k.s).M e d f):Lkm k.clock.s.M e (d+1) f/\k.clock.co=[]:=by
 have g:k.s.M.pressed k.co=k.s.M:=by rw[b];rfl
 have i:(Bst.stepMain k.s).stepAux=Bst.stepMain k.s:=by
  unfold Bst.stepAux;rw[Q (Or.inl a.held)]
 have j:k.now.s=Bst.stepMain k.s:=by
  show (Bst.stepMain ⟨k.s.M.pressed k.co,k.s.n,k.s.l⟩).stepAux=_;rw[g,i]
 have m:k.clock.s.M=(Bst.stepMain k.s).M.goOn:=by show k.now.s.M.goOn=_;rw[j]
 refine⟨?_,by show k.s.M.coming k.co=[];rw[b];rfl⟩;rw[m];exact⟨a.rom,a.held,a.main,by show (Bst.stepMain k.s).M.clock+1=_;rw[a.clock],a.ready⟩
theorem zrY{s:Bst}{c:C.Cpu}{a r:Int}(h:Lkm s.M c a r)(b:a<r):Lkm (Bst.stepMain s).M c a r:=by
 unfold Bst.stepMain;rw[Q (by rw[h.clock,h.ready];exact b)];exact h
theorem pd{s:Bst}{c f:C.Cpu}{d r n:Int}(h:Lkm s.M c d r)(g:¬ d<r)(j:c.Waits=false)(k:c.May=false)
 (m:∀(main aux:C.Cpu) (arom ram own video:List UInt8) (p0 p1:Pd) (t:TM) (s:Sd) (b:Bem) (fr tt:Int) (granted held:Bool) (m0 m1:Int) (rung:Bool) (clock mready aready:Int) (l:List Wt),
   ∃ a,C.order bD c ⟨⟨main,aux,fB,arom,ram,own,video,p0,p1,t,s,b,fr,tt,granted,held,m0,m1,rung,clock,mready,aready⟩,0,l⟩=⟨f,⟨⟨main,aux,fB,arom,a,own,video,p0,p1,t,s,b,fr,tt,granted,held,m0,m1,rung,clock,mready,aready⟩,0,l⟩,n⟩):Lkm (Bst.stepMain s).M f d (d+3*n):=by
 unfold Bst.stepMain;rw[G (by rw[h.clock,h.ready];exact g)];obtain⟨⟨main,aux,mrom,arom,ram,own,video,p0,p1,t,o,b,fr,tt,granted,held,m0,m1,rung,clock,mready,aready⟩,p,l⟩:=s;obtain⟨h1,h2,h3,h4,i⟩:=h;dsimp only at h1 h2 h3 h4 i g ⊢;subst h1 h2 h3 h4 i;obtain⟨a,e⟩:=m main aux arom ram own video p0 p1 t o b fr tt granted true m0 m1 rung clock mready aready l;rw[znJ _ _ _ j k,e];exact⟨U,U,U,U,by show clock+3*n+0=_;omega⟩
theorem zwF{s:Bst}{a r:Int}(h:Lkm s.M oo a r):∃ c,Lkm (Bst.stepMain s).M oo a c:=by
 unfold Bst.stepMain;split
 ·exact⟨r,h⟩
 ·have d:=h.main
  show ∃ c,Lkm { (C.step bD s.M.main ⟨s.M,0,s.l⟩ (s.M.t.g || s.M.b.g)).s.M with main:=_,mready:=_ } oo a c;rw[d,zpf (m:=bD) oo ⟨s.M,0,s.l⟩ _ U U];exact⟨_,h.rom,h.held,U,h.clock,U⟩
theorem zwG(a:Cs)(l:Lkm a.s.M oV 0 0)(c:a.co=[])(j:Nat):(a.clocks j).co=[]/\((j=0->Lkm (a.clocks j).s.M oV 0 0)/\(1<=j/\j<=6->Lkm (a.clocks j).s.M rP j 6)/\(7<=j/\j<=12->Lkm (a.clocks j).s.M rQ j 12)/\(13<=j->∃ r,Lkm (a.clocks j).s.M oo j r)):=by
 induction j with
 | zero=>exact⟨c,λ_=>l,λh=>by omega,λh=>by omega,λh=>by omega⟩
 | succ j m =>
  obtain⟨hc,i0,d,i2,i3⟩:=m;obtain⟨k,i⟩:∃ k,k=a.clocks j:=⟨_,U⟩
  have e:a.clocks (j+1)=k.clock:=by rw[i];rfl
  rw[<- i] at hc i0 d i2 i3;rw[e];have o:((j+1:Nat):Int)=(j:Int)+1:=by omega
  rw[o];have f:k.clock.co=[]:=by show k.s.M.coming k.co=[];rw[hc];rfl
  refine⟨f,λh=>by omega,λh=>?_,λh=>?_,λh=>?_⟩
  ·by_cases b:j=0
   ·subst b
    have g:=i0 U;exact(sU g hc (pd (n:=2) g (by decide) U U (λ_ _ _ ram _ _ _ _ _ _ _ _ _ _ _ _ _ _ _ _ _ _=>⟨ram,zug ..⟩))).1
   ·have g:=d (by omega)
    exact(sU g hc (zrY g (by omega))).1
  ·by_cases b:j=6
   ·subst b
    have g:=d (by omega);exact(sU g hc (pd (n:=2) g (by decide) U U (λ_ _ _ ram _ _ _ _ _ _ _ _ _ _ _ _ _ _ _ _ _ _=>⟨iH ram 1 0,zuh ..⟩))).1
   ·have g:=i2 (by omega)
    exact(sU g hc (zrY g (by omega))).1
  ·by_cases b:j=12
   ·subst b
    have g:=i2 (by omega);exact⟨_,(sU g hc (pd (n:=1) g (by decide) U U (λ_ _ _ ram _ _ _ _ _ _ _ _ _ _ _ _ _ _ _ _ _ _=>⟨ram,zui ..⟩))).1⟩
   ·obtain⟨r,g⟩:=i3 (by omega)
    obtain⟨p,g'⟩:=zwF g;exact⟨p,(sU g hc g').1⟩
def dr:Cs:=⟨⟨cq fB [],0,[]⟩,[],[],[]⟩
theorem zuj:Lkm dr.s.M oV 0 0:=⟨U,U,by show dO ((b9 fB []).lookM 0) ((b9 fB []).lookM 1)=oV;decide +kernel,U,U⟩
theorem zyl:(dr.clocks 64).ln.length=1/\(dr.clocks 64).sm.length=4/\(dr.clocks 64).s.M.main.Waits=true/\(dr.clocks 64).s.M.clock=64/\(dr.clocks 64).s.M.b.l=1:=by
 have hb:BOk dr.s.M.b.l dr.s.M.b.a dr.s.M.b.f:=⟨show (0:Int)<=0 by decide,show (0:Int)<=9 by decide,show (0:Int)<=0 by decide,show (0:Int)<=63 by decide,show (0:Int)<=0 by decide,show (0:Int)<=20000 by decide⟩
 have c:dr.s.M.b.f<=19000:=show (0:Int)<=19000 by decide
 have h1:=vh dr hb c 64 (by omega);have h2:=zfQ dr hb c 64 (by omega);have h3:=zfR dr hb c U 64 (by omega);obtain⟨_,_,_,_,h4⟩:=zwG dr zuj U 64;obtain⟨r,h4⟩:=h4 (by omega);refine⟨?_,?_,?_,h4.clock,?_⟩
 ·have:((dr.clocks 64).ln.map (λx=>(x.f,x.l))).length=1:=by rw[h3];decide +kernel
  rwa [ba] at this
 ·rw[h2]
  have:(ku dr.s.M.s 64).length=4:=by
   have d:=(zjz (s:=dr.s.M.s) { zok.s with w:=(by decide:0<=(0:Int)/\(0:Int)<=15) } 64).1;rw[show dr.s.M.s.w=0 from U,Q (by decide)] at d;omega
  rw[this];rfl
 ·rw[h4.main];rfl
 ·rw[h1.l];decide +kernel
theorem nE{H:Type}{enc:TypeId × Value->H}{P:Program}{w:World}{base:Nat}{spare:Nat->Bool}{held:Bool}{n i o:Nat}{ty:TypeId}{cs:List Value}{xs:List (DataW H × List MemPlace)}
 (h:DataW.trod enc P w base spare held n ty ((cs.drop o).take (P.cellsOf ty))=xs[i]?) (hi:i<xs.length) (hc:P.cellsOf ty=1) (b:P.underlying ty=some .bool) {v:Value} (c:cs[o]?=some v):∃ a:Bool,v=.bool a:=by
 obtain⟨y,d⟩:=fld h hi hc c;obtain⟨a,e,_⟩:=DataW.trod_bool b d;simp only[cN,and_true] at e;exact⟨a,e⟩
theorem zeF{H:Type}{enc:TypeId × Value->H}{w:World}{base:Nat}{spare:Nat->Bool}{held:Bool}{m:Nat}{c0 c1 c2 c3 c4:Value}{x:DataW H × List MemPlace}(h:DataW.trod enc prog w base spare held m 33 [c0,c1,c2,c3,c4]=some x):∃ v:Vc,[c0,c1,c2,c3,c4]=nQ v/\v.ok:=by
 have c:Tryz.prog.cellsOf 22=1:=by kernel_rfl
 have hB:Tryz.prog.cellsOf 4=1:=by kernel_rfl
 have d:Tryz.prog.cellsOf 5=1:=by kernel_rfl
 obtain⟨xs,n,_,_,_,b,a⟩:=cG underlying33 h;have e:xs.length=5:=b;obtain⟨a0,rfl,w0⟩:=ki (ty:=22) (o:=0) (v:=c0) (a 0 _ U) (by omega) c underlying22 U;obtain⟨a1,rfl,w1⟩:=ki (ty:=22) (o:=1) (v:=c1) (a 1 _ U) (by omega) c underlying22 U;obtain⟨a2,rfl,w2⟩:=ki (ty:=5) (o:=2) (v:=c2) (a 2 _ U) (by omega) d underlying5 U;obtain⟨b3,rfl⟩:=nE (ty:=4) (o:=3) (v:=c3) (a 3 _ U) (by omega) hB underlying4 U;obtain⟨a4,rfl,w4⟩:=ki (ty:=22) (o:=4) (v:=c4) (a 4 _ U) (by omega) c underlying22 U;exact⟨⟨a0,a1,a2,b3,a4⟩,U,cE w0,cE w1,io w2,cE w4⟩
theorem Gd.isSl{F:Gx}{W:World}{M:Mach}{tk:Tk}(h:Gd F W M tk):F.S.isSl:=λj b=>by
 obtain⟨a,c,e⟩:=h.slAt.lens j b;exact⟨_,_,_,e⟩
end Go.Proofs.YthghjlinhokimaaGreatDoor
